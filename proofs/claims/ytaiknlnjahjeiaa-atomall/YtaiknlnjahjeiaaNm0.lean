import Derived.Test.YtaiknlnjahjeiaaPd
namespace Go.Proofs.Ytaiknlnjahjeiaa
open Go.RowKit Go.PlainAid Go.MapKept
set_option linter.unusedVariables false
set_option linter.unusedSimpArgs false
theorem info100 : (Try.prog.info? 100).map (fun i => (i.zero, i.size, i.bytes)) = some (some (.agg #[.slice none 0 0, .slice none 0 0, .slice none 0 0]), 3, 72) := by kernel_rfl
section
variable {L0 kb K : Nat} {p : PR} {S : List RC} {bv : Value} {ts : List TD} {R : List (Ent L0)} {w w' : World}
theorem keys_len {M : List RC} : (keysR M).length = M.length := by simp [keysR]
theorem nA {ab mb : Nat} {L : List (List UInt8 × Ct)} {M : List RC} (W : World) (h : AM ab mb L W) (hg : AgM K L M) (hl : L.length ≤ K) (hK : K ≤ 90000) {n0 : Nat} (hn : n0 = (keysR M).length) :
    Calls Try.prog 39 #[.pointer (some ⟨ab, 0, none⟩)] W fun e w' => ∃ lo lc, e = .returned (.slice lo n0 lc) ∧ w'.ownsRow W.heap.size 9 1 (.slice lo n0 lc) n0 (flatS (keysR M)) ∧ Below W.heap.size W w' := by
  refine (names_any W h (by omega)).mono ?_
  rintro e w' ⟨v, ys, rfl, hp, hs, hrow, hb⟩
  have hys := hg.names h.kd hp hs
  subst hys
  rw [← hn] at hrow
  obtain ⟨lo, lc, rfl, _⟩ := own_slice hrow
  exact ⟨lo, lc, rfl, hrow, hb⟩
theorem nR {B rb : Nat} {v : Value} {M : List RC} (W : World) (h : RMap B rb v M W) (hl : M.length ≤ K) (hK : K ≤ 90000) {n0 : Nat} (hn : n0 = (keysR M).length) :
    Calls Try.prog 40 #[.pointer (some ⟨rb, 0, none⟩)] W fun e w' => ∃ lo lc, e = .returned (.slice lo n0 lc) ∧ w'.ownsRow W.heap.size 9 1 (.slice lo n0 lc) n0 (flatS (keysR M)) ∧ Below W.heap.size W w' := by
  refine (rnames_any W h (by omega)).mono ?_
  rintro e w' ⟨u, rfl, hrow, hb⟩
  have : M.length = n0 := by rw [hn, keys_len]
  rw [this] at hrow
  obtain ⟨lo, lc, rfl, _⟩ := own_slice hrow
  exact ⟨lo, lc, rfl, hrow, hb⟩
theorem perm_two {α : Type} (a b : α) (Z R : List α) : (a :: b :: (Z ++ R)).Perm (Z ++ (b :: a :: R)) := by
  refine (List.Perm.swap b a (Z ++ R)).trans ?_
  refine List.Perm.trans ?_ List.perm_middle.symm
  exact List.Perm.cons b List.perm_middle.symm
theorem nm_P {ks : List (List UInt8)} {v : Value} {n : Nat} (hn : n = ks.length) (h : w.ownsRow L0 9 1 v n (flatS ks)) : (nmE L0 v ks).P w := by
  subst hn
  exact h
/-- One more answer in the book. -/
theorem st_book {lo uo : Option Addr} {n0 lc uc : Nat} {ks : List (List UInt8)} (hn : n0 = ks.length) (h : Held (nmE L0 (.slice uo n0 uc) ks :: nmE L0 (.slice lo n0 lc) ks :: stE L0 kb p S bv ts R) w) (hL : L0 ≤ w.heap.size) (ht : ts.length ≤ 90000) :
    ∃ b5 c5 w5, (∀ ty, (Builtin.append_ #[85, 85] ty #[bv, .slice (some ⟨w.heap.size, 0, none⟩) 1 1]).run Try.prog (w.alloc (.cells #[.slice lo n0 lc, .slice uo n0 uc, .slice none 0 0] 100)) = .ok (.slice b5 (ts.length + 1) c5) w5) ∧ Blk w5 kb #[bv] 87 ∧ Blk w5 p.pb (p.cs kb) 76 ∧ Below L0 w w5 ∧
      Held (stE L0 kb p S (.slice b5 (ts.length + 1) c5) (ts ++ [⟨.slice lo n0 lc, .slice uo n0 uc, ks⟩]) R) (w5.setCell ⟨kb, 0, none⟩ (.slice b5 (ts.length + 1) c5)) ∧ Below L0 w5 (w5.setCell ⟨kb, 0, none⟩ (.slice b5 (ts.length + 1) c5)) := by
  have hrow : w.ownsRow L0 100 3 bv ts.length (flatT ts) := h.all (rowE L0 100 3 bv ts.length (flatT ts)) (by simp [stE])
  have hkb : Blk w kb #[bv] 87 ∧ L0 ≤ kb := h.all (boxE L0 kb #[bv] 87) (by simp [stE])
  have hpb : Blk w p.pb (p.cs kb) 76 ∧ L0 ≤ p.pb := h.all (boxE L0 p.pb (p.cs kb) 76) (by simp [stE])
  obtain ⟨v5, w5, h1, h2, h3⟩ := app_one 85 100 (.agg #[.slice none 0 0, .slice none 0 0, .slice none 0 0]) 3 72 Try.underlying85 info100 rfl (by decide) (by decide) hrow #[.slice lo n0 lc, .slice uo n0 uc, .slice none 0 0] rfl (fun u hu => by simp at hu; rcases hu with rfl | rfl | rfl <;> rfl) (by omega) hL
  obtain ⟨b5, c5, rfl, _⟩ := own_slice h2
  have hty : ∀ k, bv.ownBlock = some k → ∃ cu, Blk w k cu 100 := fun k hk => ownsRow_type hrow hk
  have hc5 := h3.chg
  have hkb5 : Blk w5 kb #[bv] 87 := hc5.blk hkb.1 (fun e => by obtain ⟨cu, hcu⟩ := hty kb e; exact Blk.ne_t hcu hkb.1 (by decide) rfl)
  have hpb5 : Blk w5 p.pb (p.cs kb) 76 := hc5.blk hpb.1 (fun e => by obtain ⟨cu, hcu⟩ := hty _ e; exact Blk.ne_t hcu hpb.1 (by decide) rfl)
  have hb5 : Below L0 w w5 := hc5.below hL (fun k hk => (ownsRow_lt hrow hk).1)
  have hS : Chg (fun k => k = kb) w5 (w5.setCell ⟨kb, 0, none⟩ (.slice b5 (ts.length + 1) c5)) := setCell_chg _ _ _ _
  refine ⟨b5, c5, w5, h1, hkb5, hpb5, hb5, ?_, hS.below (Nat.le_trans hL hb5.size) (fun k e => by rw [e]; exact hkb.2)⟩
  have hA : Held ([nmE L0 (.slice uo n0 uc) ks, nmE L0 (.slice lo n0 lc) ks, boxE L0 p.pb (p.cs kb) 76, amE L0 p.ab p.mb p.L, rmE L0 p.rb p.v p.M, lsE L0 p, roE L0 S, boxE L0 kb #[bv] 87] ++ rowE L0 100 3 bv ts.length (flatT ts) :: (ts.flatMap (TD.ents L0) ++ R)) w := h
  have h2' : w5.ownsRow L0 100 3 (.slice b5 (ts.length + 1) c5) (ts.length + 1) (flatT ts ++ ([.slice lo n0 lc, .slice uo n0 uc, .slice none 0 0] : List Value)) := h2
  have hB := hA.at (w' := w5) (e' := rowE L0 100 3 (.slice b5 (ts.length + 1) c5) (ts.length + 1) (flatT ts ++ ([.slice lo n0 lc, .slice uo n0 uc, .slice none 0 0] : List Value))) hc5 h2' (fun k hk => h3.at' k hk)
  have hC : Held ([nmE L0 (.slice uo n0 uc) ks, nmE L0 (.slice lo n0 lc) ks, boxE L0 p.pb (p.cs kb) 76, amE L0 p.ab p.mb p.L, rmE L0 p.rb p.v p.M, lsE L0 p, roE L0 S] ++ boxE L0 kb #[bv] 87 :: (rowE L0 100 3 (.slice b5 (ts.length + 1) c5) (ts.length + 1) (flatT ts ++ ([.slice lo n0 lc, .slice uo n0 uc, .slice none 0 0] : List Value)) :: (ts.flatMap (TD.ents L0) ++ R))) w5 := hB
  have hD := hC.at (w' := w5.setCell ⟨kb, 0, none⟩ (.slice b5 (ts.length + 1) c5)) (e' := boxE L0 kb #[.slice b5 (ts.length + 1) c5] 87) hS ⟨hkb5.set 0 _, hkb.2⟩ (fun k hk => Or.inl hk)
  have e1 : stE L0 kb p S (.slice b5 (ts.length + 1) c5) (ts ++ [⟨.slice lo n0 lc, .slice uo n0 uc, ks⟩]) R = ([boxE L0 p.pb (p.cs kb) 76, amE L0 p.ab p.mb p.L, rmE L0 p.rb p.v p.M, lsE L0 p, roE L0 S, boxE L0 kb #[.slice b5 (ts.length + 1) c5] 87, rowE L0 100 3 (.slice b5 (ts.length + 1) c5) (ts.length + 1) (flatT ts ++ ([.slice lo n0 lc, .slice uo n0 uc, .slice none 0 0] : List Value))] ++ ts.flatMap (TD.ents L0)) ++ (nmE L0 (.slice lo n0 lc) ks :: nmE L0 (.slice uo n0 uc) ks :: R) := by
    have f1 : flatT (ts ++ [⟨.slice lo n0 lc, .slice uo n0 uc, ks⟩]) = flatT ts ++ ([.slice lo n0 lc, .slice uo n0 uc, .slice none 0 0] : List Value) := by simp [flatT, TD.row]
    have f2 : (ts ++ [(⟨.slice lo n0 lc, .slice uo n0 uc, ks⟩ : TD)]).length = ts.length + 1 := by simp
    unfold stE
    rw [f1, f2]
    simp [TD.ents]
  rw [e1]
  refine hD.perm ?_
  have := perm_two (nmE L0 (.slice uo n0 uc) ks) (nmE L0 (.slice lo n0 lc) ks) ([boxE L0 p.pb (p.cs kb) 76, amE L0 p.ab p.mb p.L, rmE L0 p.rb p.v p.M, lsE L0 p, roE L0 S, boxE L0 kb #[.slice b5 (ts.length + 1) c5] 87, rowE L0 100 3 (.slice b5 (ts.length + 1) c5) (ts.length + 1) (flatT ts ++ ([.slice lo n0 lc, .slice uo n0 uc, .slice none 0 0] : List Value))] ++ ts.flatMap (TD.ents L0)) R
  simpa using this
/-- A name is written into a list. -/
theorem nm_set {lo : Option Addr} {n g cap q : Nat} {ks : List (List UInt8)} {Q : List (Ent L0)} (hn : n = ks.length) (h : Held (nmE L0 (.slice (some ⟨g, 0, none⟩) n cap) ks :: Q) w) (hL : L0 ≤ w.heap.size) (hq : q < n) (z : List UInt8) :
    Held (nmE L0 (.slice (some ⟨g, 0, none⟩) n cap) (ks.set q z) :: Q) (w.setCell ⟨g, q, none⟩ (.string ⟨z.toArray⟩)) ∧ Below L0 w (w.setCell ⟨g, q, none⟩ (.string ⟨z.toArray⟩)) ∧ w.frozen? ⟨g, q, none⟩ = false ∧ ∃ u, w.cell? ⟨g, q, none⟩ = some u := by
  have hrow : w.ownsRow L0 9 1 (.slice (some ⟨g, 0, none⟩) n cap) n (flatS ks) := by have h1 := h.all _ (List.mem_cons_self ..); subst hn; exact h1
  obtain ⟨h1, h2, h3⟩ := own_cell (v := .string ⟨z.toArray⟩) hrow (k := q) (by omega)
  have hc : Chg (fun k => (nmE L0 (.slice (some ⟨g, 0, none⟩) n cap) ks).bl k) w (w.setCell ⟨g, q, none⟩ (.string ⟨z.toArray⟩)) := (setCell_chg _ _ _ _).mono (fun k _ e => by rw [e]; rfl)
  refine ⟨h.swap hc ?_ (fun k hk => Or.inl hk), hc.below hL (fun k hk => (ownsRow_lt hrow hk).1), h2, h3⟩
  refine nm_P (n := n) (by rw [List.length_set]; exact hn) ?_
  rw [show flatS (ks.set q z) = (flatS ks).set q (.string ⟨z.toArray⟩) from by unfold flatS; rw [List.map_set]; rfl]
  exact h1
/-- A list, and another one that grows out of it. -/
def grE (L0 : Nat) (v : Value) (n : Nat) (xs : List Value) (x : Value) (m : Nat) (ys : List Value) : Ent L0 where
  bl := fun k => v.ownBlock = some k ∨ x.ownBlock = some k
  P := fun w => w.ownsRow L0 9 1 v n xs ∧ w.ownsRow L0 9 1 x m ys ∧ n ≤ m
  fr := fun w w' h hP => ⟨ownsRow_same hP.1 (fun g hg => h g (Or.inl hg)), ownsRow_same hP.2.1 (fun g hg => h g (Or.inr hg)), hP.2.2⟩
  lo := fun w hP g hg => hg.elim (fun e => ownsRow_lt hP.1 e) (fun e => ownsRow_lt hP.2.1 e)
theorem gr_app {v x : Value} {n m : Nat} {xs ys : List Value} {Q : List (Ent L0)} (h : Held (grE L0 v n xs x m ys :: Q) w) (hL : L0 ≤ w.heap.size) (hm : m ≤ 100000) (z : List UInt8) :
    ∃ x' w', (∀ ty, (Builtin.append_ #[39, 39] ty #[x, .slice (some ⟨w.heap.size, 0, none⟩) 1 1]).run Try.prog (w.alloc (.cells #[.string ⟨z.toArray⟩] 9)) = .ok x' w') ∧ Held (grE L0 v n xs x' (m + 1) (ys ++ [.string ⟨z.toArray⟩]) :: Q) w' ∧ Below L0 w w' := by
  obtain ⟨h1, h2, h3⟩ := h.all _ (List.mem_cons_self ..)
  have hown := h2.alloc (.cells #[.string ⟨z.toArray⟩] 9)
  obtain ⟨x', w', a1, a2, a3, a4⟩ := app_any 39 9 (.string ⟨#[]⟩) 1 16 Try.underlying39 info9 rfl (by decide) (by decide) hown ⟨w.heap.size, 0, none⟩ 1 1 [.string ⟨z.toArray⟩] rfl (fun j u hu => by
    have hB : Blk (w.alloc (.cells #[.string ⟨z.toArray⟩] 9)) w.heap.size #[.string ⟨z.toArray⟩] 9 := heap_alloc_new w _
    rw [addr_add, Nat.zero_add, hB.cell j]
    simpa using hu) (fun u hu => by simp at hu; subst hu; rfl) (by omega) (by rw [World.size_alloc]; omega) 39
  have hg := a3.ofAlloc
  have hc : Chg (fun k => (grE L0 v n xs x m ys).bl k) w w' := hg.chg.mono (fun k _ e => Or.inr e)
  refine ⟨x', w', fun ty => a1, h.swap hc ⟨?_, a2, by omega⟩ (fun k hk => ?_), hc.below hL (fun k hk => hk.elim (fun e => (ownsRow_lt h1 e).1) (fun e => (ownsRow_lt h2 e).1))⟩
  · by_cases hsame : v.ownBlock = x.ownBlock
    · exact a4 _ _ _ _ h3 hsame (h1.alloc _)
    · exact ownsRow_same h1 (fun g hg' => hg.chg.block g (ownsRow_lt h1 hg').2 (fun e => hsame (hg'.trans e.symm)))
  · rcases hk with hk | hk
    · exact Or.inl (Or.inl hk)
    · exact (hg.at' k hk).imp Or.inr id
theorem gr_end {v x : Value} {n m : Nat} {ks : List (List UInt8)} {ys : List Value} {Q : List (Ent L0)} (hn : n = ks.length) (h : Held (grE L0 v n (flatS ks) x m ys :: Q) w) : Held (nmE L0 v ks :: Q) w := by
  have h1 := h.all _ (List.mem_cons_self ..)
  refine h.drop.add (nm_P hn h1.1) (fun k hk => h.apart (Or.inl hk))
theorem gr_start {v : Value} {n : Nat} {ks : List (List UInt8)} {Q : List (Ent L0)} (hn : n = ks.length) (h : Held (nmE L0 v ks :: Q) w) : Held (grE L0 v n (flatS ks) v n (flatS ks) :: Q) w := by
  have h1 : w.ownsRow L0 9 1 v n (flatS ks) := by have h2 := h.all _ (List.mem_cons_self ..); subst hn; exact h2
  exact h.drop.add ⟨h1, h1, Nat.le_refl _⟩ (fun k hk => h.apart (hk.elim (fun e => e) (fun e => e)))
end
theorem flatS_at {ks : List (List UInt8)} {q : Nat} {x : List UInt8} (h : ks[q]? = some x) : (flatS ks)[q]? = some (.string ⟨x.toArray⟩) := by unfold flatS; rw [List.getElem?_map, h]; rfl
theorem set_mix (ks : List (List UInt8)) (z : List UInt8) (q : Nat) (hq : q < ks.length) : (List.replicate q z ++ ks.drop q).set q z = List.replicate (q + 1) z ++ ks.drop (q + 1) := by
  rw [List.set_append_right _ _ (by simp), List.length_replicate, Nat.sub_self]
  rw [List.drop_eq_getElem_cons hq, List.set_cons_zero, List.replicate_succ']
  simp
theorem mix_len (ks : List (List UInt8)) (z : List UInt8) (q : Nat) (hq : q ≤ ks.length) : (List.replicate q z ++ ks.drop q).length = ks.length := by simp; omega
end Go.Proofs.Ytaiknlnjahjeiaa
