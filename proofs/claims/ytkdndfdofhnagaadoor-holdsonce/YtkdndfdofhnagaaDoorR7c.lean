import Derived.Test.YtkdndfdofhnagaaDoorR7b
namespace Go.Proofs.YtkdndfdofhnagaaDoor
open Go.RowKit Go.PlainAid
set_option linter.unusedVariables false
set_option linter.unusedSimpArgs false
/-- Some holds are appended that lie in a row of holds. -/
theorem wpList_appHs {w : World} {ops : Array Oper} {rest : List Oper} {o : Oper} {a : Act} {Q : Exit → Act → World → Prop} (hgd : o.guard = none) (s x : Operand)
    (ho : o.op = .call { callee := .builtin .append, args := #[s, x], argTypes := #[84, 84] })
    (base k : Nat) (v : Value) (m : Int) (L : List Hd) (hs : a.eval s = v) (hown : w.ownsRow base 104 3 v k (flatH m L)) (T : List Hd) (g off n cap : Nat) (hx : a.eval x = .slice (some ⟨g, off, none⟩) n cap) (hn : T.length = n) (hcells : ∀ j u, (flatH m T)[j]? = some u → w.cell? ⟨g, off + j, none⟩ = some u) (hlen : k + n ≤ 100000) (hbase : base ≤ w.heap.size)
    (hK : ∀ v' w', w'.ownsRow base 104 3 v' (k + n) (flatH m (L ++ T)) → Grew w w' v v' → wpList Tryd.prog ops Q rest (a.put o.dst v') w') :
    wpList Tryd.prog ops Q (o :: rest) a w := by
  refine wpList_app 84 104 (.agg #[.int .i64 0, .int .i64 0, .int .i64 0]) 3 24 Tryd.underlying84 info104 rfl (by decide) (by decide) (by decide) hgd s x ho base k v (flatH m L) hs hown ⟨g, off, none⟩ n cap (flatH m T) hx (by rw [flatH_len, hn]) (fun j u hu => by rw [addr_add]; exact hcells j u hu) (flatH_one' m T) hlen hbase ?_
  intro v' w' h1 h2 h3
  exact hK v' w' (by rw [flatH_append]; exact h1) h2
set_option maxRecDepth 100000 in
set_option maxHeartbeats 1600000 in
theorem rend_any {base rb qb : Nat} {v : Value} {b : BS} {s : LS} (w : World) (hB : RBk base rb v b w) (hk : b.Ok) (h : Blk w qb s.cs 89) (ho : s.Ok) (hbase : base ≤ w.heap.size) (n : Int) (how : Int) (hf : fromOf how = 2) :
    Calls Tryd.prog 77 #[.pointer (some ⟨rb, 0, none⟩), .pointer (some ⟨qb, 0, none⟩), .int .i64 n, .int .i64 how] w fun r w' => r = .returned (.tuple #[.int .i64 (b.eamt s n), .int .i64 (b.ecode s n)]) ∧ RPost base rb qb v (b.enext s n) (b.elnext s (toOf how) n) w w' := by
  have hne : qb ≠ rb := h.ne_t hB.blk (by decide)
  have hnv : v.ownBlock ≠ some qb := fun e => by obtain ⟨cur, h1⟩ := ownsRow_type hB.row e; exact Blk.ne_t h1 h (by decide) rfl
  obtain ⟨ao, cap, hv, hcap, hcap2, hcell⟩ := own_read hB.row
  have c0 := hB.c0
  have c3 := hB.c3
  rw [hv] at c3
  have hof := rof_any n
  have hle : b.L.length ≤ 16 := by have := hk.len; have := hk.r1; omega
  by_cases hme : n % 16 = b.me
  · have HB : Hid _ := hB
    have HL : Hid _ := h
    have HO : Hid _ := ho
    have HME : Hid _ := hme
    rw [hme] at hof
    have c3' : ∀ q, (w.drewN q).cell? ⟨rb, 3, none⟩ = some (.slice ao b.L.length cap) := fun q => c3
    have hcell' : 0 < b.L.length → ∃ g, ao = some ⟨g, 0, none⟩ ∧ ∀ q j u, (flatH b.me b.L)[j]? = some u → (w.drewN q).cell? ⟨g, j, none⟩ = some u := fun h0 => by
      obtain ⟨g, e, _, _, hc⟩ := hcell h0
      exact ⟨g, e, fun q j u hu => hc j u hu⟩
    have HCL : Hid _ := hcell'
    clear hB h ho hk hme hcell hcell'
    go_enter Tryd.func77, Tryd.ntmps77
    go_wp2_with fail
    go_quiet (first | (go_at_call 49; exact Calls.quiet_of_same (hof _)) | fail)
    go_wp2_with fail
    go_loopw [10] (fun i wr => ∃ k : Nat, k ≤ b.L.length ∧ i = .int .i64 k ∧ (∀ (j : Nat) (y : Hd), j < k → b.L[j]? = some y → y.k ≠ n / 16) ∧ wr = w.drewN nq) (fun i _ => b.L.length - (intOf i).toNat)
    case atStart => exact ⟨0, Nat.zero_le _, rfl, fun j y hj => by omega, rfl⟩
    case round =>
      obtain ⟨k, hkl, rfl, hno, rfl⟩ := hrel
      have d3 := c3' nq
      by_cases hlt : k < b.L.length
      · obtain ⟨x, hx⟩ : ∃ x, b.L[k]? = some x := ⟨b.L[k]'hlt, List.getElem?_eq_getElem _⟩
        obtain ⟨g, hao, hcc⟩ := HCL.out (by omega)
        subst hao
        have e0 : (w.drewN nq).cell? ⟨g, k * 3, none⟩ = some (.int .i64 (x.k * 16 + b.me)) := hcc _ _ _ (flatH_get b.me b.L k x hx).1
        have hmm := HME.out
        by_cases hq : x.k = n / 16
        · have hqe : x.k * 16 + b.me = n := by omega
          obtain ⟨hlk, hrm⟩ := look_first hx hq hno
          have hh : b.hit n = x := by simp [BS.hit, hlk]
          have ec := b.e_some s n x hmm hlk
          have e1 : (w.drewN nq).cell? ⟨g, k * 3 + 1, none⟩ = some (.int .i64 x.am) := hcc _ _ _ (flatH_get b.me b.L k x hx).2.1
          have hqt := rTurn_any (s := s) (w.drewN nq) (show Blk (w.drewN nq) qb s.cs 89 from HL.out) HO.out how x.am
          rw [hf] at hqt
          rw [hqe] at e0
          by_cases hc : s.tcode 2 x.am = 0
          · rw [hc] at ec hqt
            have HEQ : Hid _ := (⟨by simp [BS.eamt, ec, hh], ec, by simp [BS.enext, ec, hrm], by simp [BS.elnext, ec, hh]⟩ : b.eamt s n = x.am ∧ b.ecode s n = 0 ∧ b.enext s n = { b with L := b.L.take k ++ b.L.drop (k + 1) } ∧ b.elnext s (toOf how) n = s.tnext 2 (toOf how) x.am)
            have HQT : Hid _ := hqt
            have HCC : Hid _ := hcc
            have HX : Hid _ := hx
            clear hno hq hmm hlk hrm hh ec hqt hcc hx hc hqe
            go_wp2_with fail
            refine Calls.mono HQT.out ?_
            rintro e w2 ⟨rfl, hl2, hst2⟩
            have hch2 : Chg (fun k => k = qb) w w2 := ⟨hst2.os, hst2.tape, hst2.output, hst2.size, hst2.block⟩
            have hB2 := HB.out.keep hch2 (fun e => hne e.symm) (fun k e1 e2 => hnv (e2 ▸ e1))
            have f3 := hB2.c3
            rw [hv] at f3
            have hrow2 := hB2.row
            rw [hv] at hrow2
            obtain ⟨ao2, cap2, hv2, hj1, hj2, hcell2⟩ := own_read hrow2
            cases hv2
            obtain ⟨g2, hg2, hj3, hgl2, hc2⟩ := hcell2 (by omega)
            cases hg2
            have hsz2 := hch2.size
            have HB2 : Hid _ := hB2
            have HL2 : Hid _ := hl2
            have HC2 : Hid _ := hch2
            have HCE : Hid _ := hc2
            clear hl2 hst2 hch2 hB2 hrow2 hcell2 hj1 hj2 hj3 hc2
            go_wp2_with (at_builtin; refine Mk.out ?_)
            refine Mk.mk ?_
            refine wpList_appHs rfl _ _ rfl base 0 (.slice none 0 0) b.me [] rfl (World.ownsRow_nil _ _ _ _) (b.L.take k) g 0 k cap rfl (by rw [List.length_take]; omega) (fun j u hu => by
              rw [Nat.zero_add]
              refine HCE.out j u ?_
              rw [← flatH_take, List.getElem?_take] at hu
              split at hu
              · exact hu
              · cases hu) (by omega) (Nat.le_trans hbase hsz2) ?_
            intro v3 w3 ho3 hg3
            have hch3 : Chg (fun _ => False) w2 w3 := hg3.chg.mono (fun j _ e => by cases e)
            have hB3 := HB2.out.keep hch3 (by simp) (by simp)
            have f4 := hB3.c3
            rw [hv] at f4
            have hcell3 : ∀ j u, (flatH b.me b.L)[j]? = some u → w3.cell? ⟨g, j, none⟩ = some u := fun j u hu => by
              rw [show w3.cell? ⟨g, j, none⟩ = w2.cell? ⟨g, j, none⟩ from by simp only [World.cell?, hch3.block g hgl2 (by simp)]]
              exact HCE.out j u hu
            have hsz3 := Nat.le_trans hsz2 hch3.size
            have hdis : ∀ j, v3.ownBlock = some j → w2.heap.size ≤ j := fun j e => by
              rcases hg3.at' j e with h1 | h1
              · cases h1
              · exact h1
            obtain ⟨ao3, cap3, hv3, _⟩ := own_slice ho3
            rw [Nat.zero_add] at hv3
            rw [Nat.zero_add, List.nil_append] at ho3
            have HB3 : Hid _ := hB3
            have HC3 : Hid _ := hch3
            have HCE3 : Hid _ := hcell3
            have HO3 : Hid _ := ho3
            have HD3 : Hid _ := hdis
            have HV3 : Hid _ := hv3
            subst hv3
            clear ho3 hg3 hch3 hB3 hcell3 hdis f3
            by_cases hcz : k + 1 < cap
            · go_wp2_with (at_builtin; refine Mk.out ?_)
              refine Mk.mk ?_
              refine wpList_appHs rfl _ _ rfl base k (.slice ao3 k cap3) b.me (b.L.take k) rfl HO3.out (b.L.drop (k + 1)) g ((k + 1) * 3) (b.L.length - (k + 1)) (cap - (k + 1)) rfl (by rw [List.length_drop]) (fun j u hu => by
                refine HCE3.out _ u ?_
                rw [← flatH_drop, List.getElem?_drop] at hu
                exact hu) (by omega) (Nat.le_trans hbase hsz3) ?_
              intro v4 w4 ho4 hg4
              have hB4 : Blk w4 rb (rbC b v) 86 := hg4.chg.blk HB3.out.blk (fun e => by have h1 := HD3.out rb e; have h2 := HB2.out.blk.lt; omega)
              have z4 := hB4.frozen 3
              have f5 : w4.cell? ⟨rb, 3, none⟩ = some (.slice (some ⟨g, 0, none⟩) b.L.length cap) := by rw [← hv]; exact hB4.cell 3
              have hst5 := Stq.set rb 3 v4 w4
              have hne5 : ∀ j, v4.ownBlock = some j → j ≠ rb := fun j e e2 => by
                subst e2
                obtain ⟨cur, h1⟩ := ownsRow_type ho4 e
                exact Blk.ne_t h1 hB4 (by decide) rfl
              obtain ⟨ao4, cap4, hv4, _⟩ := own_slice ho4
              have hlen4 : k + (b.L.length - (k + 1)) = (b.L.take k ++ b.L.drop (k + 1)).length := by simp; omega
              have HF : Hid _ := (show RPost base rb qb v { b with L := b.L.take k ++ b.L.drop (k + 1) } (s.tnext 2 (toOf how) x.am) w (w4.setCell ⟨rb, 3, none⟩ v4) from by
                refine ⟨⟨v4, ⟨hB4.set 3 v4, ?_⟩, fun j e => ?_⟩, ?_, ?_⟩
                · have := ownsRow_same ho4 (fun j hj => hst5.block j (ownsRow_lt ho4 hj).2 (hne5 j hj))
                  rw [hlen4] at this
                  exact this
                · rcases hg4.at' j e with h1 | h1
                  · exact Or.inr (Nat.le_trans HC2.out.size (HD3.out j h1))
                  · exact Or.inr (Nat.le_trans hsz3 h1)
                · refine hst5.blk (hg4.chg.blk (HC3.out.blk HL2.out (by simp)) (fun e => ?_)) hne
                  have h1 := HD3.out qb e
                  have h2 := Blk.lt HL2.out
                  omega
                · refine (((HC2.out.mono (B := fun k => k = rb ∨ k = qb ∨ v.ownBlock = some k) (fun j _ e => Or.inr (Or.inl e))).trans HC3.out (by simp)).trans hg4.chg (fun j hj e => ?_)).trans (Chg.ofStq hst5) (fun j _ e => Or.inl e)
                  have h1 := HD3.out j e
                  omega)
              clear ho4 hg4 hB4 hst5 hne5 hlen4
              subst hv4
              go_wp2_with fail
              go_ret2
              refine ⟨?_, ?_⟩
              · rw [HEQ.out.1, HEQ.out.2.1]
                rfl
              · rw [HEQ.out.2.2.1, HEQ.out.2.2.2]
                exact HF.out
            · have hcz2 : cap = k + 1 := by omega
              subst hcz2
              go_wp2_with (at_builtin; refine Mk.out ?_)
              refine Mk.mk ?_
              have hl0 : b.L.length - (k + 1) = 0 := by omega
              have hd0 : b.L.drop (k + 1) = [] := List.drop_of_length_le (by omega)
              refine wpList_appHs rfl _ _ rfl base k (.slice ao3 k cap3) b.me (b.L.take k) rfl HO3.out (b.L.drop (k + 1)) g 0 0 _ rfl (by rw [List.length_drop]; omega) (fun j u hu => by
                rw [hd0] at hu
                simp [flatH] at hu) (by omega) (Nat.le_trans hbase hsz3) ?_
              clear hl0 hd0
              intro v4 w4 ho4 hg4
              have hB4 : Blk w4 rb (rbC b v) 86 := hg4.chg.blk HB3.out.blk (fun e => by have h1 := HD3.out rb e; have h2 := HB2.out.blk.lt; omega)
              have z4 := hB4.frozen 3
              have f5 : w4.cell? ⟨rb, 3, none⟩ = some (.slice (some ⟨g, 0, none⟩) b.L.length (k + 1)) := by rw [← hv]; exact hB4.cell 3
              have hst5 := Stq.set rb 3 v4 w4
              have hne5 : ∀ j, v4.ownBlock = some j → j ≠ rb := fun j e e2 => by
                subst e2
                obtain ⟨cur, h1⟩ := ownsRow_type ho4 e
                exact Blk.ne_t h1 hB4 (by decide) rfl
              obtain ⟨ao4, cap4, hv4, _⟩ := own_slice ho4
              have hlen4 : k + 0 = (b.L.take k ++ b.L.drop (k + 1)).length := by simp; omega
              have HF : Hid _ := (show RPost base rb qb v { b with L := b.L.take k ++ b.L.drop (k + 1) } (s.tnext 2 (toOf how) x.am) w (w4.setCell ⟨rb, 3, none⟩ v4) from by
                refine ⟨⟨v4, ⟨hB4.set 3 v4, ?_⟩, fun j e => ?_⟩, ?_, ?_⟩
                · have := ownsRow_same ho4 (fun j hj => hst5.block j (ownsRow_lt ho4 hj).2 (hne5 j hj))
                  rw [hlen4] at this
                  exact this
                · rcases hg4.at' j e with h1 | h1
                  · exact Or.inr (Nat.le_trans HC2.out.size (HD3.out j h1))
                  · exact Or.inr (Nat.le_trans hsz3 h1)
                · refine hst5.blk (hg4.chg.blk (HC3.out.blk HL2.out (by simp)) (fun e => ?_)) hne
                  have h1 := HD3.out qb e
                  have h2 := Blk.lt HL2.out
                  omega
                · refine (((HC2.out.mono (B := fun k => k = rb ∨ k = qb ∨ v.ownBlock = some k) (fun j _ e => Or.inr (Or.inl e))).trans HC3.out (by simp)).trans hg4.chg (fun j hj e => ?_)).trans (Chg.ofStq hst5) (fun j _ e => Or.inl e)
                  have h1 := HD3.out j e
                  omega)
              clear ho4 hg4 hB4 hst5 hne5 hlen4
              subst hv4
              go_wp2_with fail
              go_ret2
              refine ⟨?_, ?_⟩
              · rw [HEQ.out.1, HEQ.out.2.1]
                rfl
              · rw [HEQ.out.2.2.1, HEQ.out.2.2.2]
                exact HF.out
          · have hcf : (s.tcode 2 x.am == 0) = false := by simpa using hc
            have HEQ : Hid _ := (⟨by simp [BS.eamt, ec, hcf], ec, by simp [BS.enext, ec, hcf], by simp [BS.elnext, ec, hcf]⟩ : b.eamt s n = 0 ∧ b.ecode s n = s.tcode 2 x.am ∧ b.enext s n = b ∧ b.elnext s (toOf how) n = s)
            rw [show s.tnext 2 (toOf how) x.am = s from by simp [LS.tnext, hc]] at hqt
            have HQT : Hid _ := hqt
            clear hno hq hmm hlk hrm hh ec hqt hcc hx hqe hcf
            generalize s.tcode 2 x.am = cd at *
            go_wp2_with fail
            refine Calls.mono HQT.out ?_
            rintro e w2 ⟨rfl, hl2, hst2⟩
            have hch2 : Chg (fun k => k = qb) w w2 := ⟨hst2.os, hst2.tape, hst2.output, hst2.size, hst2.block⟩
            have HF : Hid _ := (⟨⟨v, HB.out.keep hch2 (fun e => hne e.symm) (fun k e1 e2 => hnv (e2 ▸ e1)), fun _ e => Or.inl e⟩, hl2, hch2.mono (fun j _ e => Or.inr (Or.inl e))⟩ : RPost base rb qb v b s w w2)
            clear hl2 hst2 hch2
            go_wp2_with fail
            go_ret2
            refine ⟨?_, ?_⟩
            · rw [HEQ.out.1, HEQ.out.2.1]
              rfl
            · rw [HEQ.out.2.2.1, HEQ.out.2.2.2]
              exact HF.out
        · have hqn : x.k * 16 + b.me ≠ n := by omega
          have HNO : Hid _ := (show ∀ (j : Nat) (y : Hd), j < k + 1 → b.L[j]? = some y → y.k ≠ n / 16 from fun j y hj hy => by
            by_cases e : j = k
            · subst e
              rw [hx] at hy
              cases hy
              exact hq
            · exact hno j y (by omega) hy)
          clear hcc hx hno hq hmm
          go_wp2_with fail
          go_roundw
          case rel => exact ⟨k + 1, by omega, by go_num, HNO.out, (by first | trivial | rfl)⟩
          case measure => simp [intOf]; omega
      · have hlk : look (n / 16) b.L = none := look_no (fun j y hy => hno j y (by have := (List.getElem?_eq_some_iff.1 hy).1; omega) hy)
        have ec := b.e_none s n HME.out hlk
        have HF : Hid _ := (show b.eamt s n = 0 ∧ b.ecode s n = 70 ∧ RPost base rb qb v (b.enext s n) (b.elnext s (toOf how) n) w (w.drewN nq) from by
          rw [show b.eamt s n = 0 by simp [BS.eamt, ec], show b.enext s n = b by simp [BS.enext, ec], show b.elnext s (toOf how) n = s by simp [BS.elnext, ec], ec]
          exact ⟨rfl, rfl, ⟨v, HB.out.drewN _, fun _ e => Or.inl e⟩, HL.out, (Chg.refl _ _).drewN _⟩)
        clear hlk ec hno
        go_wp2_with fail
        go_ret2
        refine ⟨?_, HF.out.2.2⟩
        rw [HF.out.1, HF.out.2.1]
        rfl
  · have ec := b.e_me s n hme
    rw [show b.eamt s n = 0 by simp [BS.eamt, ec], show b.enext s n = b by simp [BS.enext, ec], show b.elnext s (toOf how) n = s by simp [BS.elnext, ec], ec]
    have HF : Hid _ := (show ∀ q, RPost base rb qb v b s w (w.drewN q) from fun q => ⟨⟨v, hB.drewN q, fun _ e => Or.inl e⟩, h, (Chg.refl _ _).drewN _⟩)
    clear hB h ho hk ec hcell hv c3
    generalize n % 16 = rr at *
    go_enter Tryd.func77, Tryd.ntmps77
    go_wp2_with fail
    go_quiet (first | (go_at_call 49; exact Calls.quiet_of_same (hof _)) | fail)
    go_wp2_with fail
    go_ret2
    exact ⟨rfl, HF.out _⟩
end Go.Proofs.YtkdndfdofhnagaaDoor
