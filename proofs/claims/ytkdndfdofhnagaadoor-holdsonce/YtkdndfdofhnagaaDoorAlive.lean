import Derived.Test.YtkdndfdofhnagaaDoorMade
namespace Go.Proofs.YtkdndfdofhnagaaDoor
open Go.RowKit Go.PlainAid
set_option linter.unusedVariables false
set_option linter.unusedSimpArgs false
structure OpA where
  k : Int
  a : Int
  b : Int
  o : Bool
structure OpAt (W : World) (b off : Nat) (o : OpA) : Prop where
  c0 : W.cell? ⟨b, off, none⟩ = some (.int .i64 o.k)
  c1 : W.cell? ⟨b, off + 1, none⟩ = some (.int .i64 o.a)
  c2 : W.cell? ⟨b, off + 2, none⟩ = some (.int .i64 o.b)
  c3 : W.cell? ⟨b, off + 3, none⟩ = some (.bool o.o)
  w1 : IntKind.i64.wrap o.a = o.a
  w2 : IntKind.i64.wrap o.b = o.b
def CS.does (c : CS) (o : OpA) : CS := c.play o.k o.a o.b o.o
section
variable {S : Sens} {L : Nat} {a : PA} {p p' : PS} {cr : CS} {w w' : World}
theorem PInv.ge (h : PInv S L a p cr w) {k : Nat} (hk : a.has p k) : L ≤ k := by
  rcases hk with rfl | hk | hk
  · exact h.lo
  · exact h.core.ge hk
  · exact (h.sh.typ hk).1
theorem PInv.stp (h : PInv S L a p cr w) (hs : PStp a p p' w w') : Below L w w' := hs.chg.below h.core.low (fun k hk => h.ge hk)
end
def opCells (o : OpA) : List Value := [.int .i64 o.k, .int .i64 o.a, .int .i64 o.b, .bool o.o]
def flatO : List OpA → List Value
  | [] => []
  | o :: t => opCells o ++ flatO t
theorem flatO_get : ∀ (os : List OpA) (i : Nat) (o : OpA), os[i]? = some o → (flatO os)[i * 4]? = some (.int .i64 o.k) ∧ (flatO os)[i * 4 + 1]? = some (.int .i64 o.a) ∧ (flatO os)[i * 4 + 2]? = some (.int .i64 o.b) ∧ (flatO os)[i * 4 + 3]? = some (.bool o.o)
  | [], i, o, e => by simp at e
  | x :: t, 0, o, e => by
    simp at e
    subst e
    exact ⟨rfl, rfl, rfl, rfl⟩
  | x :: t, i + 1, o, e => by
    have := flatO_get t i o (by simpa using e)
    rw [show (i + 1) * 4 = i * 4 + 4 by omega]
    simpa [flatO, opCells] using this
def aliveOps : List OpA := [⟨10, 9, 1, false⟩, ⟨1, 4, 7, false⟩, ⟨1, 5, 5, false⟩, ⟨8, 0, 0, false⟩, ⟨7, 0, 0, false⟩, ⟨6, 5, 0, false⟩, ⟨2, 19, 0, false⟩, ⟨9, 19, 0, false⟩, ⟨1, 1, 1, false⟩, ⟨3, 51, 0, false⟩, ⟨3, 51, 0, false⟩]
def seqc (k : Nat) : CS := (aliveOps.take k).foldl CS.does (ps0 3 2).c
theorem seqc_step {k : Nat} {o : OpA} (h : aliveOps[k]? = some o) : (seqc k).does o = seqc (k + 1) := by
  unfold seqc
  rw [List.take_add_one, h]
  simp
theorem seqc_end : (seqc 11).s0.u = 5 := by kernel_rfl
theorem alive_bd : ∀ o ∈ aliveOps, IntKind.i64.wrap o.a = o.a ∧ IntKind.i64.wrap o.b = o.b := by decide
theorem field42 (a d : Int) (w : World) : (Instr.field 42 (.agg #[.int .i64 a, .int .i64 d]) 1).run Tryd.prog w = .ok (.int .i64 d) w := by kernel_rfl
/-- alive's state behind k calls. -/
structure AE (S : Sens) (a : PA) (g k : Nat) (w wr : World) : Prop where
  ex : ∃ p', PInv S w.heap.size a p' p'.c wr ∧ Gd k p' ∧ p'.c = seqc k
  scr : Blk wr g (flatO aliveOps).toArray 29
  bel : Below w.heap.size w wr
set_option maxRecDepth 100000 in
set_option maxHeartbeats 1600000 in
theorem alive_any {S : Sens} {L : Nat} (w : World) (hS : Sen S L w) (hL : L ≤ w.heap.size) : Calls Tryd.prog 8 #[] w fun r w' => r = .returned (.bool true) ∧ Below w.heap.size w w' := by
  have HM : Hid _ := made_yes w hS hL 3 2 rfl
  clear hS hL
  go_enter Tryd.func8, Tryd.ntmps8
  go_wp2_with fail
  refine Calls.mono HM.out ?_
  rintro e w1 ⟨a, rfl, hI, hb1⟩
  have HI : Hid _ := hI
  have HB : Hid _ := hb1
  clear hI hb1
  go_wp2_with fail
  have hA0 : AE S a w1.heap.size 0 w (w1.alloc (.cells (flatO aliveOps).toArray 29)) := by
    have hgr : Below w1.heap.size w1 (w1.alloc (.cells (flatO aliveOps).toArray 29)) := (Below.refl _ _).alloc (Nat.le_refl _) _
    exact ⟨⟨ps0 3 2, HI.out.below hgr, gd0 3 2 rfl, rfl⟩, heap_alloc_new w1 _, HB.out.trans (hgr.mono HB.out.size)⟩
  have HA0 : Hid _ := hA0
  clear hA0 HI HB
  go_loopw [4, 5] (fun i _ wr => ∃ k : Nat, k ≤ 11 ∧ i = .int .i64 k ∧ AE S a w1.heap.size k w wr) (fun i _ _ => 11 - (intOf i).toNat)
  case atStart => exact ⟨0, Nat.zero_le _, rfl, HA0.out⟩
  case round =>
    obtain ⟨k, hk, rfl, hA⟩ := hrel
    clear HA0
    by_cases hlt : k < 11
    · obtain ⟨o, ho⟩ : ∃ o, aliveOps[k]? = some o := ⟨aliveOps[k]'hlt, List.getElem?_eq_getElem _⟩
      obtain ⟨f0, f1, f2, f3⟩ := flatO_get _ _ _ ho
      have cc : ∀ j, wr.cell? ⟨w1.heap.size, j, none⟩ = (flatO aliveOps)[j]? := fun j => by rw [hA.scr.cell j]; simp
      have d0 := (cc _).trans f0
      have d1 := (cc _).trans f1
      have d2 := (cc _).trans f2
      have d3 := (cc _).trans f3
      obtain ⟨p', hI, hG, hc⟩ := hA.ex
      obtain ⟨b1, b2⟩ := alive_bd o (List.mem_of_getElem? ho)
      have HP : Hid _ := plays_any wr hI hG (by omega) o.k o.a o.b o.o b1 b2
      have HA : Hid _ := hA
      have HO : Hid _ := ho
      have HIp : Hid _ := hI
      have HC : Hid _ := hc
      clear f0 f1 f2 f3 cc hA hI hG hc b1 b2 ho
      go_wp2_with fail
      refine Calls.mono HP.out ?_
      rintro e w2 ⟨rfl, hp⟩
      obtain ⟨p2, h1, h2, h3, h4⟩ := hp.ex
      have HN : Hid _ := (show AE S a w1.heap.size (k + 1) w w2 from ⟨⟨p2, h1, h3, by rw [h4, HC.out]; exact seqc_step HO.out⟩, h2.chg.blk HA.out.scr (HIp.out.no29 HA.out.scr), HA.out.bel.trans (HIp.out.stp h2)⟩)
      clear hp h1 h2 h3 h4
      go_wp2_with fail
      go_roundw
      case rel => exact ⟨k + 1, by omega, by go_num, HN.out⟩
      case measure => simp [intOf]; omega
    · have hkk : k = 11 := by omega
      subst hkk
      obtain ⟨p', hI, hG, hc⟩ := hA.ex
      have c2 := hI.c2
      have hs : p'.c.s0.u = 5 := by rw [hc]; exact seqc_end
      have hr := rights_any wr hI.core.l0
      rw [hs] at hr
      have HR : Hid _ := hr
      have HB : Hid _ := hA.bel
      have hfl := field42
      clear hA hI hG hc hs hr
      go_wp2_with fail
      refine Calls.mono HR.out ?_
      rintro e w3 ⟨rfl, hb3⟩
      have HF : Hid _ := HB.out.trans (hb3.mono HB.out.size)
      clear hb3
      go_wp2_with fail
      go_ret
      exact ⟨rfl, HF.out⟩
end Go.Proofs.YtkdndfdofhnagaaDoor
