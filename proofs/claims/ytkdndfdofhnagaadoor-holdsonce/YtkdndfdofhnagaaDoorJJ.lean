import Derived.Test.YtkdndfdofhnagaaDoorKeepB
import Derived.Test.YtkdndfdofhnagaaDoorSame
namespace Go.Proofs.YtkdndfdofhnagaaDoor
open Go.RowKit Go.PlainAid
set_option linter.unusedVariables false
set_option linter.unusedSimpArgs false
def CS.play (c : CS) (kind A B : Int) (o : Bool) : CS :=
  if kind = 1 then c.put o (c.b.hnext (c.s o) A B) (c.b.hlnext (c.s o) A)
  else if kind = 2 then c.put o (c.b.enext (c.s o) A) (c.b.elnext (c.s o) 1 A)
  else if kind = 3 then c.put o (c.b.enext (c.s o) A) (c.b.elnext (c.s o) 0 A)
  else if kind = 4 then c.put o (c.b.enext (c.s o) (pickI c.b.nums A)) (c.b.elnext (c.s o) 1 (pickI c.b.nums A))
  else if kind = 5 then c.put o (c.b.enext (c.s o) (pickI c.b.nums A)) (c.b.elnext (c.s o) 0 (pickI c.b.nums A))
  else if kind = 6 then c.put o { c.b with L := (xrun A (c.s o) c.b.L).left } (xrun A (c.s o) c.b.L).s
  else if kind = 10 then c.put o c.b ((c.s o).inext A B)
  else if kind = 11 then c.put o c.b ((c.s o).tnext 2 0 A)
  else c
theorem CS.put_ok {c : CS} (h : c.Ok) (o : Bool) {b : BS} {s : LS} (hb : b.Ok) (hs : s.Ok) : (c.put o b s).Ok := by
  cases o
  · exact ⟨hb, hs, h.s1⟩
  · exact ⟨hb, h.s0, hs⟩
theorem CS.put_same (c : CS) (o : Bool) : c.put o c.b (c.s o) = c := by cases o <;> rfl
theorem CS.put_b (c : CS) (o : Bool) (b : BS) (s : LS) : (c.put o b s).b = b := by cases o <;> rfl
theorem BS.sub_ok {b : BS} (h : b.Ok) {L : List Hd} (hs : L.Sublist b.L) : ({ b with L := L } : BS).Ok :=
  ⟨h.me0, h.me1, h.r1, by have := hs.length_le; have := h.len; show ((L.length : Nat) : Int) ≤ b.room; omega, h.made0, h.keys.sublist hs, fun x hx => h.each x (hs.subset hx)⟩
theorem BS.enext_ok {b : BS} (h : b.Ok) (s : LS) (n : Int) : (b.enext s n).Ok := by
  unfold BS.enext
  cases b.ecode s n == 0
  · exact h
  · exact BS.sub_ok h (List.eraseP_sublist)
theorem BS.elnext_ok (b : BS) {s : LS} (hs : s.Ok) (j : Nat) (hj : j < 2) (n : Int) : (b.elnext s j n).Ok := by
  unfold BS.elnext
  cases b.ecode s n == 0
  · exact hs
  · exact LS.tnext_ok s hs 2 j (by decide) (by omega) (by omega) _
theorem BS.hnext_ok {b : BS} (h : b.Ok) (s : LS) (am du : Int) : (b.hnext s am du).Ok := by
  unfold BS.hnext
  by_cases hc : b.hcode s am = 0
  · have hA : okAmt am = true := by
      by_cases hA : okAmt am = true
      · exact hA
      · simp [BS.hcode, hA] at hc
    have hr : ¬ b.room ≤ b.L.length := by
      intro hr
      simp [BS.hcode, hA, hr] at hc
    obtain ⟨ha1, ha2⟩ : 1 ≤ am ∧ am ≤ 1099511627776 := by simpa [okAmt] using hA
    rw [hc]
    have hm := h.made0
    refine ⟨h.me0, h.me1, h.r1, by simp; omega, by simp; omega, ?_, fun x hx => ?_⟩
    · simp only [beq_self_eq_true, cond_true]
      rw [List.pairwise_append]
      refine ⟨h.keys, by simp, fun x hx y hy => ?_⟩
      simp at hy
      subst hy
      have := (h.each x hx).2.1
      simp
      omega
    · simp only [beq_self_eq_true, cond_true, List.mem_append, List.mem_singleton] at hx ⊢
      rcases hx with hx | hx
      · have := h.each x hx
        omega
      · subst hx
        simp
        omega
  · have : (b.hcode s am == 0) = false := by simpa using hc
    rw [this]
    exact h
theorem BS.hlnext_ok (b : BS) {s : LS} (hs : s.Ok) (am : Int) : (b.hlnext s am).Ok := by
  unfold BS.hlnext
  cases b.hcode s am == 0
  · exact hs
  · exact LS.tnext_ok s hs 0 2 (by decide) (by decide) (by decide) _
theorem CS.play_ok {c : CS} (h : c.Ok) (kind A B : Int) (o : Bool) : (c.play kind A B o).Ok := by
  have hs := h.s o
  unfold CS.play
  repeat' split
  · exact CS.put_ok h o (BS.hnext_ok h.b _ _ _) (BS.hlnext_ok _ hs _)
  · exact CS.put_ok h o (BS.enext_ok h.b _ _) (BS.elnext_ok _ hs 1 (by decide) _)
  · exact CS.put_ok h o (BS.enext_ok h.b _ _) (BS.elnext_ok _ hs 0 (by decide) _)
  · exact CS.put_ok h o (BS.enext_ok h.b _ _) (BS.elnext_ok _ hs 1 (by decide) _)
  · exact CS.put_ok h o (BS.enext_ok h.b _ _) (BS.elnext_ok _ hs 0 (by decide) _)
  · exact CS.put_ok h o (BS.sub_ok h.b (xrun_sub _ _ _)) (xrun_ok _ _ _ hs)
  · exact CS.put_ok h o h.b (LS.inext_ok _ hs _ _)
  · exact CS.put_ok h o h.b (LS.tnext_ok _ hs 2 0 (by decide) (by decide) (by decide) _)
  · exact h
theorem CS.play_made {c : CS} (kind A B : Int) (o : Bool) : (c.play kind A B o).b.made ≤ c.b.made + 1 := by
  unfold CS.play
  repeat' split
  all_goals first
    | (rw [CS.put_b]; unfold BS.hnext; cases c.b.hcode (c.s o) A == 0 <;> simp <;> omega)
    | (rw [CS.put_b]; unfold BS.enext; split <;> simp <;> omega)
    | (rw [CS.put_b]; unfold BS.enext; cases c.b.ecode (c.s o) A == 0 <;> simp <;> omega)
    | (rw [CS.put_b]; unfold BS.enext; cases c.b.ecode (c.s o) (pickI c.b.nums A) == 0 <;> simp <;> omega)
    | (rw [CS.put_b]; simp; omega)
    | (rw [CS.put_b]; omega)
    | omega
def opC (kind A B : Int) (o : Bool) : Array Value := #[.int .i64 kind, .int .i64 A, .int .i64 B, .bool o]
/-- The pair within a call: the op's box lies at ob. -/
structure YSt (S : Sens) (L : Nat) (a : PA) (p p' : PS) (cr : CS) (C : Array Value) (ob : Nat) (w wr : World) : Prop where
  inv : PInv S L a p' cr wr
  op : Blk wr ob C 29
  stp : PStp a p p' w wr
section
variable {S : Sens} {L : Nat} {a : PA} {p p' p'' : PS} {cr cr' : CS} {C : Array Value} {ob : Nat} {w wr w2 : World}
theorem PInv.no29 (h : PInv S L a p cr wr) (hB : Blk wr ob C 29) : ¬ a.has p ob := by
  rintro (e | e | e)
  · exact hB.ne_t h.box (by decide) e
  · have ht : (29 : TypeId) ≠ 3 ∧ (29 : TypeId) ≠ 48 ∧ (29 : TypeId) ≠ 61 := h.core.typ e hB
    rcases e with (e | e | e | e) | (e | e | e | e)
    · exact hB.ne_t h.core.bk.blk (by decide) e
    · exact hB.ne_m h.core.bk.map e
    · exact hB.ne_t h.core.l0 (by decide) e
    · exact hB.ne_t h.core.l1 (by decide) e
    · exact hB.ne_t h.core.rk.blk (by decide) e
    · exact hB.ne_t h.core.q0 (by decide) e
    · exact hB.ne_t h.core.q1 (by decide) e
    · obtain ⟨cur, h1⟩ := ownsRow_type h.core.rk.row e
      exact Blk.ne_t h1 hB (by decide) rfl
  · obtain ⟨_, _, D, T, hB2, hT⟩ := h.sh.typ e
    have : ¬ (29 : TypeId) ≠ T := fun ne => hB.ne_t hB2 ne rfl
    rcases hT with rfl | rfl
    · exact this (by decide)
    · exact this (by decide)
theorem YSt.step (h : YSt S L a p p' cr C ob w wr) (hI : PInv S L a p'' cr' w2) (hs : PStp a p' p'' wr w2) : YSt S L a p p'' cr' C ob w w2 := ⟨hI, hs.chg.blk h.op (h.inv.no29 h.op), h.stp.trans hs⟩
theorem YSt.below (h : YSt S L a p p' cr C ob w wr) (hb : Below wr.heap.size wr w2) : YSt S L a p p' cr C ob w w2 := h.step (h.inv.below hb) (PStp.ofBelow hb)
theorem YSt.cls (h : YSt S L a p p' cr C ob w wr) : Blk wr a.pb (pairC a p') 61 ∧ Blk wr ob C 29 := ⟨h.inv.box, h.op⟩
end
/-- What stands at rest, behind n calls. -/
structure Gd (n : Nat) (p : PS) : Prop where
  full : ZFull p.z
  fl : p.z.fl = []
  m0 : 0 ≤ p.mark
  m1 : p.mark ≤ n
  ls : p.z.ls.length ≤ n
  ok : p.c.Ok
  made : p.c.b.made ≤ n
/-- A call's end. -/
structure CPost (S : Sens) (L : Nat) (a : PA) (p : PS) (n : Nat) (c' : CS) (w w' : World) : Prop where
  ex : ∃ p', PInv S L a p' p'.c w' ∧ PStp a p p' w w' ∧ Gd (n + 1) p' ∧ p'.c = c'
theorem Gd.next {n : Nat} {p : PS} (h : Gd n p) {c' : CS} {v' : Value} (hc : c'.Ok) (hm : c'.b.made ≤ p.c.b.made + 1) : Gd (n + 1) { p with c := c', v := v' } :=
  ⟨h.full, h.fl, h.m0, by have := h.m1; show p.mark ≤ ((n + 1 : Nat) : Int); omega, by have := h.ls; show p.z.ls.length ≤ n + 1; omega, hc, by have := h.made; show c'.b.made ≤ ((n + 1 : Nat) : Int); omega⟩
/-- Behind the reference's step both sides stand alike: the call's end. -/
theorem cpost_of {S : Sens} {L : Nat} {a : PA} {p : PS} {n : Nat} {c' : CS} {v' : Value} {C : Array Value} {ob : Nat} {w w' : World} (hG : Gd n p) (hY : YSt S L a p { p with c := c', v := v' } c' C ob w w') (hc : c'.Ok) (hm : c'.b.made ≤ p.c.b.made + 1) : CPost S L a p n c' w w' :=
  ⟨_, hY.inv, hY.stp, hG.next hc hm, rfl⟩
theorem nums_bd {b : BS} (h : b.Ok) (hm : b.made ≤ 1000001) (x : Int) : IntKind.i64.wrap (pickI b.nums x) = pickI b.nums x := by
  have key : ∀ y ∈ b.nums, 0 ≤ y ∧ y ≤ 1000001 * 16 + 16 := fun y hy => by
    simp only [BS.nums, numsOf, List.mem_map] at hy
    obtain ⟨d, hd, rfl⟩ := hy
    have := h.each d hd
    have := h.me0
    have := h.me1
    omega
  have hp : 0 ≤ pickI b.nums x ∧ pickI b.nums x ≤ 1000001 * 16 + 16 := by
    unfold pickI
    cases hq : b.nums.isEmpty
    · simp only [cond_false]
      rw [List.getD_eq_getElem?_getD]
      cases hg : b.nums[(x % (b.nums.length : Int)).toNat]? with
      | none => simp
      | some y => exact key y (List.mem_of_getElem? hg)
    · simp
  rw [IntKind.wrap_i64]
  omega
end Go.Proofs.YtkdndfdofhnagaaDoor
namespace Go.Proofs.YtkdndfdofhnagaaDoor
open Go.RowKit Go.PlainAid
set_option linter.unusedVariables false
set_option linter.unusedSimpArgs false
section
variable {S : Sens} {L : Nat} {a : PA} {p p' p'' : PS} {cr cr' : CS} {C : Array Value} {ob : Nat} {w w' wr w2 : World}
theorem PInv.ledStep (h : PInv S L a p cr w) (i : Bool) {s' : LS} (hst : Stq (a.l i) w w') (hl : Blk w' (a.l i) s'.cs 71) : PInv S L a { p with c := p.c.put i p.c.b s' } cr w' ∧ PStp a p { p with c := p.c.put i p.c.b s' } w w' := by
  have hc := Chg.ofStq hst
  have hl0 := h.core.led i
  exact h.codeStep i (hc.mono (fun j _ e => Or.inr (Or.inr e))) (h.core.bk.keep hc (fun e => hl0.ne_t h.core.bk.blk (by decide) e.symm) (fun e => hl0.ne_m h.core.bk.map e.symm)) hl
theorem PInv.qedStep (h : PInv S L a p cr w) (i : Bool) {s' : LS} (hst : Stq (a.q i) w w') (hl : Blk w' (a.q i) s'.cs 89) : ∃ v', PInv S L a { p with v := v' } (cr.put i cr.b s') w' ∧ PStp a p { p with v := v' } w w' := by
  have hc := Chg.ofStq hst
  have hl0 := h.core.qed i
  refine h.refStep i (b' := cr.b) (s' := s') ⟨⟨p.v, h.core.rk.keep hc (fun e => hl0.ne_t h.core.rk.blk (by decide) e.symm) (fun k e1 e2 => ?_), fun j e => Or.inl e⟩, hl, hc.mono (fun j _ e => Or.inr (Or.inl e))⟩
  obtain ⟨cur, h1⟩ := ownsRow_type h.core.rk.row e1
  exact Blk.ne_t h1 hl0 (by decide) e2
theorem YSt.float (h : YSt S L a p p' cr C ob w wr) (hf : p'.z.fl = []) {x : Dat} (ho : wr.ownsRow L 3 1 x.d x.zs.length (x.zs.map I)) (hn : ∀ k, x.d.ownBlock = some k → ¬ a.has p' k ∧ w.heap.size ≤ k) : YSt S L a p { p' with z := setFl p'.z [x] } cr C ob w wr := by
  obtain ⟨h1, h2⟩ := h.inv.sh.float hf ho (fun k e e2 => (hn k e).1 (Or.inr (Or.inr e2)))
  refine ⟨⟨h.inv.core, h1, h.inv.box, h.inv.lo⟩, h.op, h.stp.chg, ?_⟩
  rintro k (e | e | e)
  · exact h.stp.new k (Or.inl e)
  · exact h.stp.new k (Or.inr (Or.inl e))
  · rcases h2 k e with e2 | e2
    · exact h.stp.new k (Or.inr (Or.inr e2))
    · exact Or.inr (hn k e2).2
theorem YSt.kst (h : YSt S L a p p' cr C ob w wr) : KSt L a p' p'.z p'.mark wr wr := ⟨h.inv.sh, h.inv.box, Chg.refl _ _, fun k e => Or.inl e, h.inv.core.low⟩
theorem YSt.kept (h : YSt S L a p p' cr C ob w wr) {z' : ZS} {m' : Int} (hk : KSt L a p' z' m' wr w2) : YSt S L a p { p' with z := z', mark := m' } cr C ob w w2 := by
  have hA : ∀ k, (k = a.pb ∨ p'.z.has k) → L ≤ k ∧ ¬ a.core p'.v k := fun k hk => by
    rcases hk with rfl | hk
    · exact ⟨h.inv.lo, fun e => (h.inv.apart e).1 rfl⟩
    · exact ⟨(h.inv.sh.typ hk).1, fun e => (h.inv.apart e).2 hk⟩
  refine h.step ⟨h.inv.core.keep hk.chg hA, hk.sh, hk.box, h.inv.lo⟩ ⟨hk.chg.mono (fun j _ e => ?_), ?_⟩
  · rcases e with e | e
    · exact Or.inl e
    · exact Or.inr (Or.inr e)
  · rintro k (e | e | e)
    · exact Or.inl (Or.inl e)
    · exact Or.inl (Or.inr (Or.inl e))
    · rcases hk.new k e with e2 | e2
      · exact Or.inl (Or.inr (Or.inr e2))
      · exact Or.inr e2
/-- The shelf with an answer under way is full as it was. -/
theorem ZFull.fl {z : ZS} (h : ZFull z) (hf : z.fl = []) {x : Dat} (hx : x.zs.length ≤ 16) : ZFull (setFl z [x]) := by
  refine ⟨h.lens, h.full, h.few, fun y hy => ?_, h.same⟩
  simp only [ZS.dats, setFl, List.mem_append, List.mem_singleton] at hy
  rcases hy with hy | hy | hy | rfl
  · exact h.short y (by simp [ZS.dats, hy])
  · exact h.short y (by simp [ZS.dats, hy])
  · exact h.short y (by simp [ZS.dats, hy])
  · exact hx
/-- The end of a call that has kept an answer. -/
theorem cpost_kept {n : Nat} {c' : CS} {v' : Value} {x : Dat} (hG : Gd n p) (hY : YSt S L a p { p with c := c', v := v', z := setFl p.z [x] } c' C ob w wr) (hK : KPost L a { p with c := c', v := v', z := setFl p.z [x] } wr w2) (hc : c'.Ok) (hm : c'.b.made ≤ p.c.b.made + 1) : CPost S L a p n c' w w2 := by
  obtain ⟨z', h1, h2, h3, h4⟩ := hK.ex
  have hY2 := hY.kept h1
  refine ⟨⟨_, hY2.inv, hY2.stp, ⟨h2, h3, ?_, ?_, ?_, hc, ?_⟩, rfl⟩⟩
  · have := hG.m0
    show 0 ≤ p.mark + 1
    omega
  · have := hG.m1
    show p.mark + 1 ≤ ((n + 1 : Nat) : Int)
    omega
  · have h5 := hG.ls
    have h6 : z'.ls.length ≤ p.z.ls.length + 1 := h4
    show z'.ls.length ≤ n + 1
    omega
  · have := hG.made
    show c'.b.made ≤ ((n + 1 : Nat) : Int)
    omega
/-- A row that was new lies apart from the pair, and stays through its steps. -/
theorem row_kept {u : Value} {m : Nat} {xs : List Value} {H : Nat} (ho : wr.ownsRow H 3 1 u m xs) (hp : ∀ k, a.has p k → k < H) (hs : PStp a p p' wr w2) : w2.ownsRow H 3 1 u m xs :=
  ownsRow_same ho (fun g hg => hs.chg.block g (ownsRow_lt ho hg).2 (fun e => by have h1 := hp g e; have h2 := (ownsRow_lt ho hg).1; omega))
end
end Go.Proofs.YtkdndfdofhnagaaDoor
