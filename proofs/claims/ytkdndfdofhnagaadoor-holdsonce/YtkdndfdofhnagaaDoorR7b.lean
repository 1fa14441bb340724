import Derived.Test.YtkdndfdofhnagaaDoorR7a
namespace Go.Proofs.YtkdndfdofhnagaaDoor
open Go.RowKit Go.PlainAid
set_option linter.unusedVariables false
set_option linter.unusedSimpArgs false
/-- A mark: the walk stands here. -/
structure Mk (p : Prop) : Prop where
  out : p
/-- One hold is appended, that lies in the new block ahead of it. -/
theorem wpList_appH {w : World} {ops : Array Oper} {rest : List Oper} {o : Oper} {a : Act} {Q : Exit → Act → World → Prop} (hgd : o.guard = none) (s x : Operand)
    (ho : o.op = .call { callee := .builtin .append, args := #[s, x], argTypes := #[84, 84] })
    (base k : Nat) (v : Value) (m : Int) (L : List Hd) (hs : a.eval s = v) (hown : w.ownsRow base 104 3 v k (flatH m L)) (h : Hd) {g : Nat} (hx : a.eval x = .slice (some ⟨g, 0, none⟩) 1 1) (hgs : g = w.heap.size) (hlen : k + 1 ≤ 100000) (hbase : base ≤ w.heap.size)
    (hK : ∀ v' w', w'.ownsRow base 104 3 v' (k + 1) (flatH m (L ++ [h])) → Grew w w' v v' → wpList Tryd.prog ops Q rest (a.put o.dst v') w') :
    wpList Tryd.prog ops Q (o :: rest) a (w.alloc (.cells #[.int .i64 (h.k * 16 + m), .int .i64 h.am, .int .i64 h.du] 104)) := by
  subst hgs
  refine wpList_app 84 104 (.agg #[.int .i64 0, .int .i64 0, .int .i64 0]) 3 24 Tryd.underlying84 info104 rfl (by decide) (by decide) (by decide) hgd s x ho base k v (flatH m L) hs (hown.alloc _) ⟨w.heap.size, 0, none⟩ 1 1 (hc3 m h) hx rfl ?_ (by rw [← flatH_one]; exact flatH_one' m [h]) hlen (by rw [World.size_alloc]; omega) ?_
  · intro j u hu
    rw [addr_add, cell_of_row _ _ _ _ 104 (0, 0) (heap_alloc_new w _), Nat.zero_add]
    simpa [hc3, I] using hu
  · intro v' w' h1 h2 h3
    exact hK v' w' (by rw [flatH_append, flatH_one]; exact h1) h2.ofAlloc
theorem look_first {kk : Int} : ∀ {L : List Hd} {i : Nat} {x : Hd}, L[i]? = some x → x.k = kk → (∀ (j : Nat) (y : Hd), j < i → L[j]? = some y → y.k ≠ kk) → look kk L = some x ∧ rm kk L = L.take i ++ L.drop (i + 1)
  | [], i, x, h, _, _ => by simp at h
  | a :: t, 0, x, h, e, _ => by
    simp at h
    subst h
    simp [look, rm, e]
  | a :: t, i + 1, x, h, e, hn => by
    have h0 : (kk == a.k) = false := by have := hn 0 a (by omega) rfl; simp; omega
    obtain ⟨h1, h2⟩ := look_first (L := t) (i := i) (by simpa using h) e (fun j y hj hy => hn (j + 1) y (by omega) (by simpa using hy))
    unfold look rm at *
    simp only [List.find?_cons, h0, h1, List.eraseP_cons, cond_false, h2, List.take_succ_cons, List.drop_succ_cons, List.cons_append, and_self]
theorem look_no {kk : Int} : ∀ {L : List Hd}, (∀ (j : Nat) (y : Hd), L[j]? = some y → y.k ≠ kk) → look kk L = none
  | [], _ => rfl
  | a :: t, hn => by
    have h0 : (kk == a.k) = false := by have := hn 0 a rfl; simp; omega
    have := look_no (L := t) (fun j y hy => hn (j + 1) y (by simpa using hy))
    unfold look at *
    simp only [List.find?_cons, h0, this]
/-- What a call of the reference's book leaves. -/
structure RPost (base rb qb : Nat) (v : Value) (b : BS) (s : LS) (w w' : World) : Prop where
  bk : ∃ v', RBk base rb v' b w' ∧ (∀ j, v'.ownBlock = some j → v.ownBlock = some j ∨ w.heap.size ≤ j)
  led : Blk w' qb s.cs 89
  chg : Chg (fun k => k = rb ∨ k = qb ∨ v.ownBlock = some k) w w'
set_option maxRecDepth 100000 in
set_option maxHeartbeats 1600000 in
theorem rhold_any {base rb qb : Nat} {v : Value} {b : BS} {s : LS} (w : World) (hB : RBk base rb v b w) (hk : b.Ok) (h : Blk w qb s.cs 89) (ho : s.Ok) (hbase : base ≤ w.heap.size) (hmade : b.made ≤ 1000000) (am du : Int) :
    Calls Tryd.prog 43 #[.pointer (some ⟨rb, 0, none⟩), .pointer (some ⟨qb, 0, none⟩), .int .i64 am, .int .i64 du] w fun r w' => r = .returned (.tuple #[.int .i64 (b.hnum s am), .int .i64 (b.hcode s am)]) ∧ RPost base rb qb v (b.hnext s am du) (b.hlnext s am) w w' := by
  have hne : qb ≠ rb := h.ne_t hB.blk (by decide)
  have hnv : v.ownBlock ≠ some qb := fun e => by obtain ⟨cur, h1⟩ := ownsRow_type hB.row e; exact Blk.ne_t h1 h (by decide) rfl
  obtain ⟨ao, cap, hv, _, _, _⟩ := own_read hB.row
  have c1 := hB.c1
  have c3 := hB.c3
  rw [hv] at c3
  by_cases hA : okAmt am = true
  · obtain ⟨ha1, ha2⟩ : 1 ≤ am ∧ am ≤ 1099511627776 := by simpa [okAmt] using hA
    by_cases hr : b.room ≤ b.L.length
    · have ec : b.hcode s am = 71 := by simp [BS.hcode, hA, hr]
      rw [show b.hnum s am = 0 by simp [BS.hnum, ec], show b.hnext s am du = b by simp [BS.hnext, ec], show b.hlnext s am = s by simp [BS.hlnext, ec], ec]
      have HF : Hid _ := (show ∀ q, RPost base rb qb v b s w (w.drewN q) from fun q => ⟨⟨v, hB.drewN q, fun _ e => Or.inl e⟩, h, (Chg.refl _ _).drewN _⟩)
      generalize b.room = rm' at *
      generalize b.L.length = ll at *
      clear hB h hk ho ec hmade hA hv
      go_enter Tryd.func43, Tryd.ntmps43
      go_wp2_with fail
      go_quiet (fail)
      go_wp2_with fail
      go_ret2
      exact ⟨rfl, HF.out _⟩
    · by_cases hc : s.tcode 0 am = 0
      · have ec : b.hcode s am = 0 := by simp [BS.hcode, hA, hr, hc]
        rw [show b.hnum s am = (b.made + 1) * 16 + b.me by simp [BS.hnum, ec], show b.hnext s am du = { b with made := b.made + 1, L := b.L ++ [⟨b.made + 1, am, du⟩] } by simp [BS.hnext, ec], show b.hlnext s am = s.tnext 0 2 am by simp [BS.hlnext, ec], ec]
        have hlk := fun q => rTurn_any (s := s) (w.drewN q) (show Blk (w.drewN q) qb s.cs 89 from h) ho 3 am
        rw [show fromOf 3 = 0 from rfl, show toOf 3 = 2 from rfl, hc] at hlk
        have HB : Hid _ := hB
        have HM : Hid _ := (⟨hk.made0, hk.me0, hk.me1, hmade, by have := hk.len; have := hk.r1; omega⟩ : 0 ≤ b.made ∧ 0 ≤ b.me ∧ b.me < 16 ∧ b.made ≤ 1000000 ∧ b.L.length ≤ 16)
        have HK : Hid _ := hlk
        obtain ⟨bme, broom, bmade, bL⟩ := b
        dsimp only at *
        generalize hll : bL.length = ll at *
        have HLL : Hid _ := hll
        clear hB h hk ho ec hmade hA hlk hll
        go_enter Tryd.func43, Tryd.ntmps43
        go_wp2_with fail
        go_quiet (fail)
        go_wp2_with fail
        refine Calls.mono (HK.out _) ?_
        rintro e w2 ⟨rfl, hl2, hst2⟩
        have hch2 : Chg (fun k => k = qb) w w2 := ⟨hst2.os, hst2.tape, hst2.output, hst2.size, hst2.block⟩
        have hB2 := HB.out.keep hch2 (fun e => hne e.symm) (fun k e1 e2 => hnv (e2 ▸ e1))
        have g2 := hB2.c2
        have z2 := hB2.blk.frozen 2
        dsimp only at g2
        have hw1 : IntKind.i64.wrap (bmade + 1) = bmade + 1 := by have := HM.out; rw [IntKind.wrap_i64]; omega
        have hw2 : IntKind.i64.wrap ((bmade + 1) * 16) = (bmade + 1) * 16 := by have := HM.out; rw [IntKind.wrap_i64]; omega
        have hw3 : IntKind.i64.wrap ((bmade + 1) * 16 + bme) = (bmade + 1) * 16 + bme := by have := HM.out; rw [IntKind.wrap_i64]; omega
        have hB3b : Blk (w2.setCell ⟨rb, 2, none⟩ (.int .i64 (bmade + 1))) rb (rbC ⟨bme, broom, bmade + 1, bL⟩ v) 86 := hB2.blk.set 2 _
        have hst3 := Stq.set rb 2 (.int .i64 (bmade + 1)) w2
        have hrow3 : (w2.setCell ⟨rb, 2, none⟩ (.int .i64 (bmade + 1))).ownsRow base 104 3 v bL.length (flatH bme bL) := ownsRow_same hB2.row (fun g hg => hst3.block g (ownsRow_lt hB2.row hg).2 (fun e => hB2.ne (e ▸ hg)))
        have hl3 := hst3.blk hl2 hne
        have hch3 : Chg (fun k => k = rb ∨ k = qb ∨ v.ownBlock = some k) w (w2.setCell ⟨rb, 2, none⟩ (.int .i64 (bmade + 1))) := (hch2.mono (fun j _ e => Or.inr (Or.inl e))).trans (Chg.ofStq hst3) (fun j _ e => Or.inl e)
        clear hl2 hst2 hch2 hB2 hst3
        go_wp2_with fail
        generalize w2.setCell ⟨rb, 2, none⟩ (.int .i64 (bmade + 1)) = w3 at *
        clear g2 z2
        have d0 : w3.cell? ⟨rb, 0, none⟩ = some (.int .i64 bme) := hB3b.cell 0
        have d2 : w3.cell? ⟨rb, 2, none⟩ = some (.int .i64 (bmade + 1)) := hB3b.cell 2
        have d3 : ∀ q, (w3.drewN q).cell? ⟨rb, 3, none⟩ = some (.slice ao ll cap) := fun q => by rw [← hv]; exact hB3b.cell 3
        have d3' : w3.cell? ⟨rb, 3, none⟩ = some (.slice ao ll cap) := d3 0
        have HB3 : Hid _ := (show ∀ q, Blk (w3.drewN q) rb (rbC ⟨bme, broom, bmade + 1, bL⟩ v) 86 from fun q => hB3b)
        have HR3 : Hid _ := (show ∀ q, (w3.drewN q).ownsRow base 104 3 (.slice ao ll cap) ll (flatH bme bL) from fun q => by rw [← hv, ← HLL.out]; exact hrow3)
        have HL3 : Hid _ := hl3
        have HC3 : Hid _ := hch3
        have hle : ll + 1 ≤ 100000 := by have := HM.out; have := HLL.out; omega
        have hbs : ∀ q, base ≤ (w3.drewN q).heap.size := fun q => Nat.le_trans hbase hch3.size
        clear hB3b hrow3 hl3 hch3
        go_quiet (fail)
        go_wp2_with (at_builtin; refine Mk.out ?_)
        refine Mk.mk ?_
        refine wpList_appH rfl _ _ rfl base ll (.slice ao ll cap) bme bL rfl (HR3.out _) ⟨bmade + 1, am, du⟩ rfl (by first | rfl | simp) hle (hbs _) ?_
        intro v' w4 ho4 hg4
        obtain ⟨ao', cap', hv', _⟩ := own_slice ho4
        have hB4 : Blk w4 rb (rbC ⟨bme, broom, bmade + 1, bL⟩ v) 86 := hg4.chg.blk (HB3.out nq) (fun e => HB.out.ne (by rw [hv]; exact e))
        have z3 := hB4.frozen 3
        have f3 : w4.cell? ⟨rb, 3, none⟩ = some (.slice ao ll cap) := by rw [← hv]; exact hB4.cell 3
        have hst5 := Stq.set rb 3 v' w4
        have hne5 : ∀ g, v'.ownBlock = some g → g ≠ rb := fun g e e2 => by
          subst e2
          obtain ⟨cur, h1⟩ := ownsRow_type ho4 e
          exact Blk.ne_t h1 hB4 (by decide) rfl
        have HF : Hid _ := (show RPost base rb qb v ⟨bme, broom, bmade + 1, bL ++ [⟨bmade + 1, am, du⟩]⟩ (s.tnext 0 2 am) w (w4.setCell ⟨rb, 3, none⟩ v') from by
          refine ⟨⟨v', ⟨hB4.set 3 v', ?_⟩, fun j e => ?_⟩, ?_, ?_⟩
          · have := ownsRow_same ho4 (fun g hg => hst5.block g (ownsRow_lt ho4 hg).2 (hne5 g hg))
            simpa [HLL.out] using this
          · rcases hg4.at' j e with h1 | h1
            · exact Or.inl (by rw [hv]; exact h1)
            · exact Or.inr (Nat.le_trans HC3.out.size h1)
          · exact hst5.blk (hg4.chg.blk (show Blk (w3.drewN nq) qb _ 89 from HL3.out) (fun e => hnv (by rw [hv]; exact e))) hne
          · exact ((HC3.out.drewN nq).trans hg4.chg (fun j _ e => Or.inr (Or.inr (by rw [hv]; exact e)))).trans (Chg.ofStq hst5) (fun j _ e => Or.inl e))
        clear ho4 hg4 hB4 hst5 hne5
        subst hv'
        go_wp2_with fail
        go_ret2
        exact ⟨rfl, HF.out⟩
      · have hcf : (s.tcode 0 am == 0) = false := by simpa using hc
        have ec : b.hcode s am = s.tcode 0 am := by simp [BS.hcode, hA, hr]
        rw [show b.hnum s am = 0 by simp [BS.hnum, ec, hcf], show b.hnext s am du = b by simp [BS.hnext, ec, hcf], show b.hlnext s am = s by simp [BS.hlnext, ec, hcf], ec]
        have hlk := fun q => rTurn_any (s := s) (w.drewN q) (show Blk (w.drewN q) qb s.cs 89 from h) ho 3 am
        rw [show fromOf 3 = 0 from rfl, show toOf 3 = 2 from rfl, show s.tnext 0 2 am = s from by simp [LS.tnext, hc]] at hlk
        generalize s.tcode 0 am = cd at *
        have HB : Hid _ := hB
        have HK : Hid _ := hlk
        generalize b.room = rm' at *
        generalize b.L.length = ll at *
        clear hB h hk ho ec hmade hA hlk hcf
        go_enter Tryd.func43, Tryd.ntmps43
        go_wp2_with fail
        go_quiet (fail)
        go_wp2_with fail
        refine Calls.mono (HK.out _) ?_
        rintro e w2 ⟨rfl, hl2, hst2⟩
        have hch2 : Chg (fun k => k = qb) w w2 := ⟨hst2.os, hst2.tape, hst2.output, hst2.size, hst2.block⟩
        have HF : Hid _ := (⟨⟨v, HB.out.keep hch2 (fun e => hne e.symm) (fun k e1 e2 => hnv (e2 ▸ e1)), fun _ e => Or.inl e⟩, hl2, hch2.mono (fun j _ e => Or.inr (Or.inl e))⟩ : RPost base rb qb v b s w w2)
        clear hl2 hst2 hch2
        go_wp2_with fail
        go_ret2
        exact ⟨rfl, HF.out⟩
  · have hAf : okAmt am = false := by simpa using hA
    have ec : b.hcode s am = 1 := by simp [BS.hcode, hAf]
    rw [show b.hnum s am = 0 by simp [BS.hnum, ec], show b.hnext s am du = b by simp [BS.hnext, ec], show b.hlnext s am = s by simp [BS.hlnext, ec], ec]
    have HF : Hid _ := (⟨⟨v, hB, fun _ e => Or.inl e⟩, h, Chg.refl _ _⟩ : RPost base rb qb v b s w w)
    by_cases h1 : am < 1
    · clear hB h hk ho ec hmade hA hAf hv c1 c3
      go_enter Tryd.func43, Tryd.ntmps43
      go_wp2_with fail
      go_ret2
      exact ⟨rfl, HF.out⟩
    · have h2 : 1099511627776 < am := by simp [okAmt] at hAf; omega
      clear hB h hk ho ec hmade hA hAf hv c1 c3
      go_enter Tryd.func43, Tryd.ntmps43
      go_wp2_with fail
      go_ret2
      exact ⟨rfl, HF.out⟩
end Go.Proofs.YtkdndfdofhnagaaDoor
