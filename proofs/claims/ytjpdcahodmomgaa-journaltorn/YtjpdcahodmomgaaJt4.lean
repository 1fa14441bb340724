import Derived.Test.YtjpdcahodmomgaaJt2
namespace Go.Proofs.Ytjpdcahodmomgaa
open Go.RowKit Go.PlainAid
set_option linter.unusedVariables false
set_option linter.unusedSimpArgs false
/-- How a record is appended: whole, or the power fails and the journal is dead. -/
def ApO (L jb s : Nat) (y : JV) (x : DV) (R : List (Ent L)) (bs : List UInt8) (k : Nat) (w : World) (e : Ending) (w' : World) : Prop :=
  ((x.armed = true → k ≤ x.whole) ∧ e = .returned (.int .i64 0) ∧ ∃ rv' v', Held ((y.added rv' v' bs).es L jb ++ (dmE L y.p s (wroteX x (y.recs.length + 1) y.next bs k) :: R)) w' ∧ Below L w w') ∨
  (x.armed = true ∧ x.whole < k ∧ e = .returned (.int .i64 200) ∧ Held (boxE L jb deadA 80 :: dmE L y.p s (tornX x (y.recs.length + 1) y.next bs x.whole) :: R) w' ∧ Below L w w')
set_option maxRecDepth 100000 in
set_option maxHeartbeats 3200000 in
theorem append_gen {L jb s : Nat} {y : JV} {x : DV} {R : List (Ent L)} {vo : Option Addr} {n c : Nat} {bs : List UInt8} (w : World) (h : Held (y.es L jb ++ (dmE L y.p s x :: R)) w) (hb : ∀ W, Below L w W → Held R W → By W (.slice vo n c) bs) (hc : n ≤ c) (hn : n ≤ 8192) (ho : x.off = false) (ht : x.torn ≤ 512) (hwh : x.whole ≤ 9223372036854775807) (hwr : x.writes ≤ 900000000000000000) (hr : y.recs.length ≤ 1000) (hx : y.next + kS n ≤ y.fin) (hf : y.fin = x.n) (hxn : x.n ≤ 65536) :
    Calls Try.prog 16 #[.pointer (some ⟨jb, 0, none⟩), .slice vo n c] w fun e w' => ApO L jb s y x R bs (kS n) w e w' := by
  have hmf : ∀ (fn : Fn) (first cap : Array Value) (w : World), (Instr.makeFunc fn first cap).run Try.prog w = .ok (.func fn first cap) w := fun _ _ _ _ => rfl
  obtain ⟨H, hH⟩ : ∃ H, H = w.heap.size := ⟨_, rfl⟩
  have hL := jlow h
  obtain ⟨w1, hw1⟩ : ∃ w1, w1 = (w.alloc (.cells #[.pointer (some ⟨jb, 0, none⟩)] 31)).alloc (.cells #[.int .i64 0] 25) := ⟨_, rfl⟩
  have hb1 : Below H w w1 := by rw [hw1, hH]; exact ((Below.refl _ _).alloc (Nat.le_refl _) _).alloc (by rw [World.size_alloc]; omega) _
  have hB0 : Blk w1 H #[.pointer (some ⟨jb, 0, none⟩)] 31 := by rw [hw1, hH]; exact heap_alloc2_old w _ _
  have hB1 : Blk w1 (H + 1) #[.int .i64 0] 25 := by rw [hw1, hH]; exact heap_alloc2_new w _ _
  have h1 : Held (y.es L jb ++ (dmE L y.p s x :: boxE L H #[.pointer (some ⟨jb, 0, none⟩)] 31 :: boxE L (H + 1) #[.int .i64 0] 25 :: R)) w1 := by
    have hw : Below w.heap.size w w1 := by rw [← hH]; exact hb1
    have h2 : Held (boxE L H #[.pointer (some ⟨jb, 0, none⟩)] 31 :: (y.es L jb ++ (dmE L y.p s x :: R))) w1 := Held.fresh h hw ⟨hB0, by rw [hH]; exact hL⟩ (fun k hk => by have : k = H := hk; omega)
    have h3 : Held (boxE L (H + 1) #[.int .i64 0] 25 :: boxE L H #[.pointer (some ⟨jb, 0, none⟩)] 31 :: (y.es L jb ++ (dmE L y.p s x :: R))) w1 := h2.add ⟨hB1, by omega⟩ (fun k hk hh => by
      have hk' : k = H + 1 := hk
      rcases has_cons.1 hh with e | e
      · have : k = H := e
        omega
      · have := (h.typ e).2
        omega)
    have hp : (boxE L (H + 1) #[.int .i64 0] 25 :: boxE L H #[.pointer (some ⟨jb, 0, none⟩)] 31 :: (y.es L jb ++ (dmE L y.p s x :: R))).Perm (y.es L jb ++ (dmE L y.p s x :: boxE L H #[.pointer (some ⟨jb, 0, none⟩)] 31 :: boxE L (H + 1) #[.int .i64 0] 25 :: R)) := by
      refine (List.Perm.swap ..).trans ?_
      have e1 : ([boxE L H #[.pointer (some ⟨jb, 0, none⟩)] 31, boxE L (H + 1) #[.int .i64 0] 25] ++ ((y.es L jb ++ [dmE L y.p s x]) ++ R)).Perm ((y.es L jb ++ [dmE L y.p s x]) ++ ([boxE L H #[.pointer (some ⟨jb, 0, none⟩)] 31, boxE L (H + 1) #[.int .i64 0] 25] ++ R)) := by
        rw [← List.append_assoc, ← List.append_assoc (y.es L jb ++ [dmE L y.p s x])]
        exact List.Perm.append_right _ List.perm_append_comm
      simpa [List.append_assoc] using e1
    exact h3.perm hp
  have hkn := kS_le n hn
  have HW : Hid (∀ X : World, (∃ q, X = w1.drewN q) → Calls Try.prog 41 #[.pointer (some ⟨jb, 0, none⟩), .slice vo n c] X fun e w' => WrO L jb s y x (boxE L H #[.pointer (some ⟨jb, 0, none⟩)] 31 :: boxE L (H + 1) #[.int .i64 0] 25 :: R) bs (kS n) w1 e w') := fun X hX => by
    obtain ⟨q, rfl⟩ := hX
    refine (jwrite_gen (R := boxE L H #[.pointer (some ⟨jb, 0, none⟩)] 31 :: boxE L (H + 1) #[.int .i64 0] 25 :: R) (w1.drewN q) (h1.drewN q) (fun W h5 h6 => hb W (((hb1.mono (by omega)).trans (below_dr (Below.refl _ _) q)).trans h5) h6.drop.drop) hc hn ho ht hwh hwr hr (by rw [← hf]; exact hx) hxn).mono ?_
    rintro e w' (⟨e0, e1, rv', v', e2, e3⟩ | ⟨e0, e1, e2, e3, e4⟩)
    · exact Or.inl ⟨e0, e1, rv', v', e2, (below_dr (Below.refl _ _) q).trans e3⟩
    · exact Or.inr ⟨e0, e1, e2, e3, (below_dr (Below.refl _ _) q).trans e4⟩
  have HON : Hid _ := isOn_any w1 (h1d h1)
  rw [ho] at HON
  have HRM : Hid (∀ q, Calls Try.prog 18 #[.pointer (some ⟨jb, 0, none⟩)] (w1.drewN q) fun e w' => e = .returned (.int .i64 ((y.fin - y.next : Nat) : Int)) ∧ ∃ m, w' = (w1.drewN q).drewN m) := fun q => room_any (w1.drewN q) (h1.drewN q) (by have := kS_pos n; omega) (by omega)
  have HK : Hid (∀ q, Calls Try.prog 40 #[.int .i64 (n : Int)] (w1.drewN q) fun e w' => e = .returned (.int .i64 (kS n : Int)) ∧ w' = (w1.drewN q)) := fun q => kS_any n _ (by omega)
  have c4 : w1.cell? ⟨jb, 4, none⟩ = some (.bool false) := (jbox h1).cell 4
  have c0 : w1.cell? ⟨jb, 0, none⟩ = some (.pointer (some ⟨y.p, 0, none⟩)) := (jbox h1).cell 0
  have b0 : w1.cell? ⟨H, 0, none⟩ = some (.pointer (some ⟨jb, 0, none⟩)) := hB0.cell 0
  have hroom : (kS n : Int) ≤ ((y.fin - y.next : Nat) : Int) := by omega
  obtain ⟨rm, hrm⟩ : ∃ rm : Int, rm = ((y.fin - y.next : Nat) : Int) := ⟨_, rfl⟩
  obtain ⟨k, hk⟩ : ∃ k : Int, k = (kS n : Int) := ⟨_, rfl⟩
  have hroom' : ¬ rm < k := by rw [hrm, hk]; omega
  rw [← hrm] at HRM
  rw [← hk] at HK
  have HBB : Hid (Below L w w1 ∧ H ≤ w1.heap.size) := ⟨hb1.mono (by omega), Nat.le_trans (by omega) hb1.size⟩
  have HHH : Hid (H = w.heap.size) := hH
  have hn' : ¬ (8192 : Int) < (n : Int) := by omega
  clear h hb h1 hB0 hB1 hb1 hL hroom hrm hk ho ht hwh hwr hr hx hf hxn
  go_enter_defers Try.func16, Try.ntmps16
  go_upto_region 2 with fail
  rw [← hw1, ← hH]
  clear hw1 hH
  go_wp2_with fail
  refine Calls.mono HON.out ?_
  rintro e wo ⟨rfl, hwo⟩
  replace hwo := hwo.symm
  subst hwo
  clear HON c4 c0
  go_wp2_with fail
  go_quiet (first | (go_at_call 40; refine Calls.quiet_of_same (HK.out _)) | (go_at_call 18; refine Calls.quiet_of (HRM.out _)))
  have HW1 : Hid _ := HW.out (w1.drewN nq) ⟨nq, rfl⟩
  have b1 : (w1.drewN nq).cell? ⟨H, 0, none⟩ = some (.pointer (some ⟨jb, 0, none⟩)) := b0
  generalize w1.drewN nq = X at HW1 b1 ⊢
  clear HW HRM HK b0
  go_wp2_with fail
  refine Calls.mono HW1.out ?_
  rintro e w5 (⟨hwo, rfl, rv', v', h5, hb5⟩ | ⟨har, hwl, rfl, h5, hb5⟩)
  · have HWO : Hid (x.armed = true → kS n ≤ x.whole) := hwo
    clear hwo
    clear HW1 b1
    have hB5 : Blk w5 (H + 1) #[.int .i64 0] 25 := (h5.all (boxE L (H + 1) #[.int .i64 0] 25) (by simp)).1
    have z1 : w5.cell? ⟨H + 1, 0, none⟩ = some (.int .i64 0) := hB5.cell 0
    have f1 : w5.frozen? ⟨H + 1, 0, none⟩ = false := hB5.frozen 0
    have HF : Hid (Held ((y.added rv' v' bs).es L jb ++ (dmE L y.p s (wroteX x (y.recs.length + 1) y.next bs (kS n)) :: R)) (w5.setCell ⟨H + 1, 0, none⟩ (.int .i64 0)) ∧ Below L w (w5.setCell ⟨H + 1, 0, none⟩ (.int .i64 0)) ∧ (w5.setCell ⟨H + 1, 0, none⟩ (.int .i64 0)).cell? ⟨H + 1, 0, none⟩ = some (.int .i64 0)) := by
      have hs : (w5.setCell ⟨H + 1, 0, none⟩ (.int .i64 0)).cell? ⟨H + 1, 0, none⟩ = some (.int .i64 0) := by rw [(hB5.set 0 _).cell 0]; rfl
      have hd : Held ((y.added rv' v' bs).es L jb ++ (dmE L y.p s (wroteX x (y.recs.length + 1) y.next bs (kS n)) :: R)) w5 := Held.subl h5 (by
        refine List.Sublist.append (List.Sublist.refl _) (List.Sublist.cons_cons _ (List.Sublist.cons _ (List.Sublist.cons _ (List.Sublist.refl _)))))
      have hbx : Held (boxE L (H + 1) #[.int .i64 0] 25 :: ((y.added rv' v' bs).es L jb ++ (dmE L y.p s (wroteX x (y.recs.length + 1) y.next bs (kS n)) :: boxE L H #[.pointer (some ⟨jb, 0, none⟩)] 31 :: R))) w5 := h5.perm (by
        have e1 : ((y.added rv' v' bs).es L jb ++ ([dmE L y.p s (wroteX x (y.recs.length + 1) y.next bs (kS n)), boxE L H #[.pointer (some ⟨jb, 0, none⟩)] 31] ++ (boxE L (H + 1) #[.int .i64 0] 25 :: R))).Perm (boxE L (H + 1) #[.int .i64 0] 25 :: ((y.added rv' v' bs).es L jb ++ ([dmE L y.p s (wroteX x (y.recs.length + 1) y.next bs (kS n)), boxE L H #[.pointer (some ⟨jb, 0, none⟩)] 31] ++ R))) := by
          rw [← List.append_assoc, ← List.append_assoc]
          exact List.perm_middle
        simpa using e1)
      refine ⟨hd.chg (setCell_chg _ _ _ _) (fun k hk e => ?_), (HBB.out.1.trans hb5).trans ((setCell_chg _ _ _ _).below (jlow h5) (fun k e => ?_)), hs⟩
      · refine hbx.apart (k := k) e ?_
        obtain ⟨en, hen, hv⟩ := hk
        refine ⟨en, ?_, hv⟩
        rcases List.mem_append.1 hen with h9 | h9
        · exact List.mem_append_left _ h9
        · refine List.mem_append_right _ ?_
          rcases List.mem_cons.1 h9 with h10 | h10
          · rw [h10]; exact List.mem_cons_self ..
          · exact List.mem_cons_of_mem _ (List.mem_cons_of_mem _ h10)
      · have := (h5.all (boxE L (H + 1) #[.int .i64 0] 25) (by simp)).2
        omega
    clear hB5 h5 hb5
    go_wp2_with fail
    have z2 := HF.out.2.2
    clear z1 f1
    generalize w5.setCell ⟨H + 1, 0, none⟩ (.int .i64 0) = w6 at HF z2 ⊢
    refine leaves_cons (f := 38) (args := #[.pointer (some ⟨H + 1, 0, none⟩), .pointer (some ⟨H, 0, none⟩)]) (by simp) (by simp [go_sem]) ?_
    refine (late_any (H + 1) H 0 (by decide) .returning _ z2).mono ?_
    rintro e u' w' ⟨rfl, rfl, rfl⟩
    refine ⟨.int .i64 0, ?_, Or.inl ⟨HWO.out, rfl, rv', v', HF.out.1, HF.out.2.1⟩⟩
    simp [results, Try.results16, go_sem, z2]
  · have HWO : Hid (x.armed = true ∧ x.whole < kS n) := ⟨har, hwl⟩
    clear har hwl
    clear HW1 b1
    have HNE : Hid (jb ≠ H + 1) := Blk.ne_t (jbox h5) ((h5.all (boxE L (H + 1) #[.int .i64 0] 25) (by simp)).1) (by decide)
    have hB5 : Blk w5 (H + 1) #[.int .i64 0] 25 := (h5.all (boxE L (H + 1) #[.int .i64 0] 25) (by simp)).1
    have z1 : w5.cell? ⟨H + 1, 0, none⟩ = some (.int .i64 0) := hB5.cell 0
    have f1 : w5.frozen? ⟨H + 1, 0, none⟩ = false := hB5.frozen 0
    have HF : Hid (Held (y.es L jb ++ (dmE L y.p s (tornX x (y.recs.length + 1) y.next bs x.whole) :: R)) (w5.setCell ⟨H + 1, 0, none⟩ (.int .i64 200)) ∧ Below L w (w5.setCell ⟨H + 1, 0, none⟩ (.int .i64 200)) ∧ (w5.setCell ⟨H + 1, 0, none⟩ (.int .i64 200)).cell? ⟨H + 1, 0, none⟩ = some (.int .i64 200)) := by
      have hs : (w5.setCell ⟨H + 1, 0, none⟩ (.int .i64 200)).cell? ⟨H + 1, 0, none⟩ = some (.int .i64 200) := by rw [(hB5.set 0 _).cell 0]; rfl
      have hd : Held (y.es L jb ++ (dmE L y.p s (tornX x (y.recs.length + 1) y.next bs x.whole) :: R)) w5 := Held.subl h5 (by
        refine List.Sublist.append (List.Sublist.refl _) (List.Sublist.cons_cons _ (List.Sublist.cons _ (List.Sublist.cons _ (List.Sublist.refl _)))))
      have hbx : Held (boxE L (H + 1) #[.int .i64 0] 25 :: (y.es L jb ++ (dmE L y.p s (tornX x (y.recs.length + 1) y.next bs x.whole) :: boxE L H #[.pointer (some ⟨jb, 0, none⟩)] 31 :: R))) w5 := h5.perm (by
        have e1 : (y.es L jb ++ ([dmE L y.p s (tornX x (y.recs.length + 1) y.next bs x.whole), boxE L H #[.pointer (some ⟨jb, 0, none⟩)] 31] ++ (boxE L (H + 1) #[.int .i64 0] 25 :: R))).Perm (boxE L (H + 1) #[.int .i64 0] 25 :: (y.es L jb ++ ([dmE L y.p s (tornX x (y.recs.length + 1) y.next bs x.whole), boxE L H #[.pointer (some ⟨jb, 0, none⟩)] 31] ++ R))) := by
          rw [← List.append_assoc, ← List.append_assoc]
          exact List.perm_middle
        simpa using e1)
      refine ⟨hd.chg (setCell_chg _ _ _ _) (fun k hk e => ?_), (HBB.out.1.trans hb5).trans ((setCell_chg _ _ _ _).below (jlow h5) (fun k e => ?_)), hs⟩
      · refine hbx.apart (k := k) e ?_
        obtain ⟨en, hen, hv⟩ := hk
        refine ⟨en, ?_, hv⟩
        rcases List.mem_append.1 hen with h9 | h9
        · exact List.mem_append_left _ h9
        · refine List.mem_append_right _ ?_
          rcases List.mem_cons.1 h9 with h10 | h10
          · rw [h10]; exact List.mem_cons_self ..
          · exact List.mem_cons_of_mem _ (List.mem_cons_of_mem _ h10)
      · have := (h5.all (boxE L (H + 1) #[.int .i64 0] 25) (by simp)).2
        omega
    have HZ3 : Hid ((w5.setCell ⟨H + 1, 0, none⟩ (.int .i64 200)).cell? ⟨H, 0, none⟩ = some (.pointer (some ⟨jb, 0, none⟩))) := by
      have hB6 : Blk w5 H #[.pointer (some ⟨jb, 0, none⟩)] 31 := (h5.all (boxE L H #[.pointer (some ⟨jb, 0, none⟩)] 31) (by simp)).1
      have hb6 : Blk (w5.setCell ⟨H + 1, 0, none⟩ (.int .i64 200)) H #[.pointer (some ⟨jb, 0, none⟩)] 31 := (setCell_chg w5 (H + 1) 0 (.int .i64 200)).blk hB6 (by omega)
      exact hb6.cell 0
    clear hB5 h5 hb5
    go_wp2_with fail
    have z2 := HF.out.2.2
    have z3 : (w5.setCell ⟨H + 1, 0, none⟩ (.int .i64 200)).cell? ⟨H, 0, none⟩ = some (.pointer (some ⟨jb, 0, none⟩)) := HZ3.out
    clear z1 f1
    generalize w5.setCell ⟨H + 1, 0, none⟩ (.int .i64 200) = w6 at HF z2 z3 ⊢
    refine leaves_cons (f := 38) (args := #[.pointer (some ⟨H + 1, 0, none⟩), .pointer (some ⟨H, 0, none⟩)]) (by simp) (by simp [go_sem]) ?_
    have hbj : Blk w6 jb y.cs 80 := jbox HF.out.1
    refine (late_die .returning _ z2 z3 hbj rfl).mono ?_
    rintro e u' w' ⟨rfl, rfl, hd1, hd2⟩
    have HG : Held (boxE L jb deadA 80 :: dmE L y.p s (tornX x (y.recs.length + 1) y.next bs x.whole) :: R) w' ∧ Below L w w' := by
      have h7 : Held (boxE L jb y.cs 80 :: dmE L y.p s (tornX x (y.recs.length + 1) y.next bs x.whole) :: R) w6 := Held.subl HF.out.1 (by
        show List.Sublist _ (boxE L jb y.cs 80 :: (tailE L 38 y.rv y.recs.length (y.recs.map Prod.fst) :: y.recs.map (datE L)) ++ _)
        exact List.Sublist.cons_cons _ (List.sublist_append_right _ _))
      have hLj : L ≤ jb := (h7.all _ (List.mem_cons_self ..)).2
      refine ⟨h7.swap (e' := boxE L jb deadA 80) hd2 ⟨hd1, hLj⟩ (fun k hk => Or.inl hk), HF.out.2.1.trans (hd2.below (jlow HF.out.1) (fun k e => by rw [e]; exact hLj))⟩
    have zz : w'.cell? ⟨H + 1, 0, none⟩ = some (.int .i64 200) := by
      have hne : (H + 1) ≠ jb := fun e => HNE.out e.symm
      rw [← z2]
      exact World.cell?_of_block (w := w6) (hd2.block _ (World.block_lt_of_cell? w6 _ z2) hne)
    refine ⟨.int .i64 200, ?_, Or.inr ⟨HWO.out.1, HWO.out.2, rfl, HG.1, HG.2⟩⟩
    simp [results, Try.results16, go_sem, zz]
end Go.Proofs.Ytjpdcahodmomgaa
