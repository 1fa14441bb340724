import Derived.Test.YtehjdkdoalmaeaaLetter4
import Derived.Test.YtehjdkdoalmaeaaPlan
namespace Go.Proofs.Ytehjdkdoalmaeaa
open Go.RowKit Go.PlainAid
set_option linter.unusedVariables false
set_option linter.unusedSimpArgs false
def opC (o : OpA) : Array Value := #[.int .i64 o.kind, .int .i64 o.who, .int .i64 o.i, .int .i64 o.j, .int .i64 o.l.f, .int .i64 o.l.t, .slice o.l.ao o.l.bs.length o.l.cap]
/-- Behind a call of the pair. -/
structure PPost (L pb hbn hbr room n : Nat) (s s' : PS) (w w' : World) : Prop where
  inv : PInv L pb hbn hbr room s' w'
  ag : PAg room s'
  full : PFull s'
  cnt : PCnt (n + 1) s'
  stp : PStp pb hbn hbr s s' w w'
  fl : s'.fl = []
/-- The state within 'plays': the pair, and the box of the call. -/
structure YSt (L pb hbn hbr room : Nat) (s s' : PS) (O : Array Value) (w W : World) : Prop where
  inv : PInv L pb hbn hbr room s' W
  stp : PStp pb hbn hbr s s' w W
  bo : Blk W w.heap.size O 43
  n1 : ¬ s'.has pb hbn hbr w.heap.size
/-- All but the bags, what is under way and what was lent. -/
structure Rest (s s' : PS) : Prop where
  ks : s'.ks = s.ks
  ms : s'.ms = s.ms
  ls : s'.ls = s.ls
  ws : s'.ws = s.ws
  mark : s'.mark = s.mark
  turns : s'.turns = s.turns
  size : s'.size = s.size
theorem Rest.refl (s : PS) : Rest s s := ⟨rfl, rfl, rfl, rfl, rfl, rfl, rfl⟩
theorem Rest.trans {a b c : PS} (h : Rest a b) (k : Rest b c) : Rest a c := ⟨k.ks.trans h.ks, k.ms.trans h.ms, k.ls.trans h.ls, k.ws.trans h.ws, k.mark.trans h.mark, k.turns.trans h.turns, k.size.trans h.size⟩
theorem Rest.full {s s' : PS} (h : Rest s s') (hF : PFull s) : PFull s' := ⟨by rw [h.ks, h.ms]; exact hF.lens, by rw [h.ks, h.ms]; exact hF.full, by rw [h.ks]; exact hF.few, by rw [h.ks]; exact hF.short, by rw [h.ws, h.ls]; exact hF.same⟩
theorem Rest.cnt {s s' : PS} {n : Nat} (h : Rest s s') (hc : PCnt n s) : PCnt n s' := ⟨by rw [h.turns]; exact hc.t0, by rw [h.turns]; exact hc.t1, by rw [h.mark]; exact hc.m0, by rw [h.mark]; exact hc.m1, by rw [h.size]; exact hc.z0, by rw [h.size]; exact hc.z1, by rw [h.ls]; exact hc.ls, by rw [h.ls]; exact hc.small⟩
theorem PCnt.more {s : PS} {n : Nat} (hc : PCnt n s) : PCnt (n + 1) s := ⟨hc.t0, by have := hc.t1; omega, hc.m0, by have := hc.m1; omega, hc.z0, hc.z1, Nat.le_succ_of_le hc.ls, hc.small⟩
section
variable {L pb hbn hbr room : Nat} {s s1 s2 : PS} {O : Array Value} {w W W2 : World}
theorem YSt.drew (h : YSt L pb hbn hbr room s s1 O w W) : YSt L pb hbn hbr room s s1 O w ({ W with drawn := W.drawn + 1 } : World) := ⟨h.inv.keep fun _ _ => rfl, ⟨h.stp.os, h.stp.tape, h.stp.output, h.stp.size, h.stp.block, h.stp.has⟩, h.bo, h.n1⟩
theorem YSt.drewN (h : YSt L pb hbn hbr room s s1 O w W) (q : Nat) : YSt L pb hbn hbr room s s1 O w (W.drewN q) := ⟨h.inv.keep fun _ _ => rfl, ⟨h.stp.os, h.stp.tape, h.stp.output, h.stp.size, h.stp.block, h.stp.has⟩, h.bo, h.n1⟩
theorem YSt.step (h : YSt L pb hbn hbr room s s1 O w W) (hP : PInv L pb hbn hbr room s2 W2) (hS : PStp pb hbn hbr s1 s2 W W2) : YSt L pb hbn hbr room s s2 O w W2 := by
  refine ⟨hP, h.stp.trans hS, (hS.block _ h.bo.lt h.n1).trans h.bo, fun q => ?_⟩
  rcases hS.has _ q with r | r
  · exact h.n1 r
  · have := h.bo.lt; omega
theorem YSt.below (h : YSt L pb hbn hbr room s s1 O w W) (hb : Below W.heap.size W W2) : YSt L pb hbn hbr room s s1 O w W2 := h.step (h.inv.below hb) (PStp.ofBelow hb)
theorem YSt.alloc (h : YSt L pb hbn hbr room s s1 O w W) (o : Obj) : YSt L pb hbn hbr room s s1 O w (W.alloc o) := h.below ((Below.refl _ _).alloc (Nat.le_refl _) _)
/-- A box that is not the pair's is written into. -/
theorem YSt.setRow (h : YSt L pb hbn hbr room s s1 O w W) {g : Nat} (hg : ¬ s1.has pb hbn hbr g) (hw : w.heap.size < g) (cs : Array Value) : YSt L pb hbn hbr room s s1 O w (W.setRow g cs) :=
  ⟨h.inv.keep fun k hk => heap_setRow_other _ _ _ (fun e => hg (by rw [← e]; exact hk)), ⟨h.stp.os, h.stp.tape, h.stp.output, by simp [World.setRow]; exact h.stp.size, fun k hk hn => (heap_setRow_other _ _ _ (by omega)).trans (h.stp.block k hk hn), h.stp.has⟩, (heap_setRow_other _ _ _ (by omega)).trans h.bo, h.n1⟩
theorem YSt.cell (h : YSt L pb hbn hbr room s s1 O w W) (j : Nat) : W.cell? ⟨pb, j, none⟩ = (pairC hbn hbr s1)[j]? := h.inv.cell j
end
/-- What Deliver or At of the bag has answered. -/
structure Ans (s s1 : PS) (lv1 : List LetV) (d : Value) (bs : List UInt8) : Prop where
  fl : s1.fl = [⟨d, bs⟩]
  lv : s1.lv = lv1
  lr : s1.lr = s.lr
  rest : Rest s s1
/-- What Deliver or At of the reference has answered. -/
structure RAns (s1 s2 : PS) (lr2 : List LetV) : Prop where
  fl : s2.fl = s1.fl
  lv : s2.lv = s1.lv
  lr : s2.lr = lr2
  rest : Rest s1 s2
def BagCall (L pb hbn hbr room F : Nat) (s : PS) (O : Array Value) (w : World) (i f t er : Int) (lv1 : List LetV) (bs : List UInt8) : Prop :=
  ∀ X, YSt L pb hbn hbr room s s O w X → Calls Try.prog F #[.pointer (some ⟨hbn, 0, none⟩), .int .i64 i] X fun e Y => ∃ s1 d, e = .returned (.tuple #[.agg (letC f t d), .int .i64 er]) ∧ YSt L pb hbn hbr room s s1 O w Y ∧ PStp pb hbn hbr s s1 X Y ∧ Ans s s1 lv1 d bs
def RefCall (L pb hbn hbr room F : Nat) (s : PS) (O : Array Value) (w : World) (i f t er : Int) (lr2 : List LetV) (bs : List UInt8) : Prop :=
  ∀ X s1, YSt L pb hbn hbr room s s1 O w X → s1.lr = s.lr → Calls Try.prog F #[.pointer (some ⟨hbr, 0, none⟩), .int .i64 i] X fun e Y => ∃ s2 d2, e = .returned (.tuple #[.agg (letC f t d2), .int .i64 er]) ∧ YSt L pb hbn hbr room s s2 O w Y ∧ PStp pb hbn hbr s1 s2 X Y ∧ Y.ownsRow X.heap.size 5 1 d2 bs.length (bs.map B) ∧ RAns s1 s2 lr2
section
variable {L pb hbn hbr room : Nat} {s : PS} {O : Array Value} {w : World}
theorem told_stp {s1 : PS} {X Y : World} {d : Value} {bs : List UInt8} (hb : Below X.heap.size X Y) (hd : Y.ownsRow X.heap.size 5 1 d bs.length (bs.map B)) (hf : s1.fl = []) : PStp pb hbn hbr s1 { s1 with fl := ⟨d, bs⟩ :: s1.fl } X Y := by
  refine PStp.vals ⟨hb.os, hb.tape, hb.output, hb.size⟩ (fun k hk _ => hb.block k hk) (fun u hu k hk => ?_)
  have hu' : u = d ∨ u ∈ s1.vals := by
    simp only [PS.vals, PS.part1, PS.part2, PS.part3, hf, List.map_cons, List.map_nil, List.mem_append, List.mem_cons] at hu ⊢
    grind
  rcases hu' with rfl | q
  · exact Or.inr (hd.lt k hk).1
  · exact Or.inl (foot_of q hk)
/-- Deliver, where there is one. -/
theorem del_yes (hf : s.fl = []) (hroom : s.lv.length ≤ 1024) (i : Nat) (l : LetV) (hl : s.lv[i]? = some l) : BagCall L pb hbn hbr room 13 s O w (i : Nat) l.f l.t 0 (s.lv.eraseIdx i) l.bs := by
  intro X hX
  refine (deliver_at X hX.inv.bag hroom i l hl).mono ?_
  rintro e Y ⟨rfl, v', hB, hst⟩
  have hP := hX.inv.take hl hB hst
  have hS : PStp pb hbn hbr s { s with v := v', lv := s.lv.eraseIdx i, fl := ⟨l.d, l.bs⟩ :: s.fl } X Y := by
    refine PStp.bag hst fun u hu k hk => Or.inl ?_
    rcases List.mem_append.1 hu with h | h
    · obtain ⟨y, hy, rfl⟩ := List.mem_map.1 h
      exact foot_lv (List.mem_of_mem_eraseIdx hy) hk
    · rw [hf] at h
      simp only [List.map_cons, List.map_nil, List.mem_singleton] at h
      subst h
      exact foot_lv (List.mem_of_getElem? hl) hk
  exact ⟨_, l.d, rfl, hX.step hP hS, hS, by show (⟨l.d, l.bs⟩ : Dat) :: s.fl = _; rw [hf], rfl, rfl, ⟨rfl, rfl, rfl, rfl, rfl, rfl, rfl⟩⟩
theorem no_bag (hf : s.fl = []) (hLw : L ≤ w.heap.size) {F : Nat} {i : Int} (h : ∀ X, Bag L hbn room s.v s.lv X → Calls Try.prog F #[.pointer (some ⟨hbn, 0, none⟩), .int .i64 i] X fun e Y => e = .returned (.tuple #[.agg zeroL, .int .i64 40]) ∧ Below X.heap.size X Y) : BagCall L pb hbn hbr room F s O w i 0 0 40 s.lv [] := by
  intro X hX
  refine (h X hX.inv.bag).mono ?_
  rintro e Y ⟨rfl, hb⟩
  have hd : Y.ownsRow X.heap.size 5 1 (.slice none 0 0) ([] : List UInt8).length (([] : List UInt8).map B) := World.ownsRow_nil _ _ _ _
  have hP := hX.inv.told hb hd (Nat.le_trans hLw hX.stp.size)
  have hS := told_stp (pb := pb) (hbn := hbn) (hbr := hbr) hb hd hf
  exact ⟨_, .slice none 0 0, rfl, hX.step hP hS, hS, by show (⟨.slice none 0 0, []⟩ : Dat) :: s.fl = _; rw [hf], rfl, rfl, ⟨rfl, rfl, rfl, rfl, rfl, rfl, rfl⟩⟩
theorem at_yes (hf : s.fl = []) (hLw : L ≤ w.heap.size) (hroom : s.lv.length ≤ 1024) (i : Nat) (l : LetV) (hl : s.lv[i]? = some l) (hsz : l.bs.length ≤ 1048576) : BagCall L pb hbn hbr room 16 s O w (i : Nat) l.f l.t 0 s.lv l.bs := by
  intro X hX
  refine (at_at X hX.inv.bag hroom i l hl (by omega)).mono ?_
  rintro e Y ⟨d, rfl, hd, hb⟩
  have hP := hX.inv.told hb hd (Nat.le_trans hLw hX.stp.size)
  have hS := told_stp (pb := pb) (hbn := hbn) (hbr := hbr) hb hd hf
  exact ⟨_, d, rfl, hX.step hP hS, hS, by show (⟨d, l.bs⟩ : Dat) :: s.fl = _; rw [hf], rfl, rfl, ⟨rfl, rfl, rfl, rfl, rfl, rfl, rfl⟩⟩
theorem rdel_yes (hLw : L ≤ w.heap.size) (hroom : s.lr.length ≤ 1024) (i : Nat) (l : LetV) (hl : s.lr[i]? = some l) (hsz : l.bs.length ≤ 1048576) : RefCall L pb hbn hbr room 33 s O w (i : Nat) l.f l.t 0 (s.lr.eraseIdx i) l.bs := by
  intro X s1 hX hlr
  have hB0 := hX.inv.ref
  rw [hlr] at hB0
  refine (rdeliver_at X hB0 hroom (Nat.le_trans hLw hX.stp.size) i l hl (by omega)).mono ?_
  rintro e Y ⟨d, rfl, hd, v', hB, hst⟩
  have hP := hX.inv.rturn (lr' := s.lr.eraseIdx i) (lq := s.lr.eraseIdx i) (List.Perm.refl _) (by rw [hlr]; exact List.eraseIdx_sublist _ _) hB hst
  have hS : PStp pb hbn hbr s1 { s1 with vr := v', lr := s.lr.eraseIdx i } X Y := by
    refine PStp.ref hst fun u hu k hk => Or.inl ?_
    obtain ⟨y, hy, rfl⟩ := List.mem_map.1 hu
    exact foot_lr (by rw [hlr]; exact List.mem_of_mem_eraseIdx hy) hk
  exact ⟨_, d, rfl, hX.step hP hS, hS, hd, rfl, rfl, rfl, ⟨rfl, rfl, rfl, rfl, rfl, rfl, rfl⟩⟩
theorem rat_yes (hroom : s.lr.length ≤ 1024) (i : Nat) (l : LetV) (hl : s.lr[i]? = some l) (hsz : l.bs.length ≤ 1048576) : RefCall L pb hbn hbr room 38 s O w (i : Nat) l.f l.t 0 s.lr l.bs := by
  intro X s1 hX hlr
  have hB0 := hX.inv.ref
  rw [hlr] at hB0
  refine (rat_at X hB0 hroom i l hl (by omega)).mono ?_
  rintro e Y ⟨d, rfl, hd, hb⟩
  exact ⟨s1, d, rfl, hX.below hb, PStp.ofBelow hb, hd, rfl, rfl, hlr, Rest.refl s1⟩
theorem no_ref {F : Nat} {i : Int} (h : ∀ X v, RBag L hbr room v s.lr X → Calls Try.prog F #[.pointer (some ⟨hbr, 0, none⟩), .int .i64 i] X fun e Y => e = .returned (.tuple #[.agg zeroL, .int .i64 40]) ∧ Below X.heap.size X Y) : RefCall L pb hbn hbr room F s O w i 0 0 40 s.lr [] := by
  intro X s1 hX hlr
  have hB0 := hX.inv.ref
  rw [hlr] at hB0
  refine (h X s1.vr hB0).mono ?_
  rintro e Y ⟨rfl, hb⟩
  exact ⟨s1, .slice none 0 0, rfl, hX.below hb, PStp.ofBelow hb, World.ownsRow_nil _ _ _ _, rfl, rfl, hlr, Rest.refl s1⟩
end
end Go.Proofs.Ytehjdkdoalmaeaa
