import Derived.Test.YtadfmnlkfcigoaaJoinH
import Derived.Test.YtadfmnlkfcigoaaOr0
import Derived.Test.YtadfmnlkfcigoaaArgs
namespace Go.Proofs.Ytadfmnlkfcigoaa
open Go.RowKit Go.PlainAid
set_option linter.unusedVariables false
set_option linter.unusedSimpArgs false
theorem isz38 : (Try.prog.info? 38).map (·.size) = some 7 := by kernel_rfl
theorem isz34 : (Try.prog.info? 34).map (·.size) = some 5 := by kernel_rfl
theorem info38 : (Try.prog.info? 38).map (fun i => (i.zero, i.size, i.bytes)) = some (some (.agg #[.int .i64 0, .int .i64 0, .int .i64 0, .int .i64 0, .int .i64 0, .int .i64 0, .int .i64 0]), 7, 56) := by kernel_rfl
theorem split_at1 {α : Type} {l : List α} {i : Nat} {x : α} (h : l[i]? = some x) : l = l.take i ++ x :: l.drop (i + 1) := by
  obtain ⟨hl, rfl⟩ := List.getElem?_eq_some_iff.1 h
  rw [← List.drop_eq_getElem_cons hl, List.take_append_drop]
theorem on0 {a : CA} (h : COk a) : OnR a [] cx0 rs0 := by
  refine ⟨?_, List.nodup_nil, (fun c => by simp [cx0]), (fun p hp => by cases hp), List.Perm.refl _, (fun s i _ h1 h2 => by have : i ≤ 0 := h2; omega), (fun p hp => by cases hp)⟩
  exact ⟨fun _ _ => rfl, rfl, (fun _ _ => ⟨Int.le_refl _, show (0 : Int) ≤ 1099511627776 from by decide⟩), (fun c hc => by cases hc), List.nodup_nil, (fun y hy => by cases hy), List.Pairwise.nil, fun s _ => Kp.nil _ _⟩
set_option maxRecDepth 100000 in
set_option maxHeartbeats 25600000 in
theorem once_law (z0 z1 : Int) (h0 : In64 z0) (h1 : In64 z1) (ao : Option Addr) (N cap : Nat) (os : List OpC) (w : World) (hl : os.length = N) (hnc : N ≤ cap) (hcm : cap ≤ maxLen) (hok : ∀ o ∈ os, o.ok)
    (hat : 0 < N → ∃ b off, ao = some ⟨b, off, none⟩ ∧ ∀ i o, os[i]? = some o → RowAt w b (off + i * 5) o.row) :
    Calls Try.prog 3 #[.int .i64 z0, .int .i64 z1, .slice ao N cap] w fun e w' => e = .returned (.bool true) ∧ Below w.heap.size w w' := by
  unfold maxLen at hcm
  by_cases hN : 100 < N
  · go_enter Try.func3, Try.ntmps3
    go_wp2_with fail
    go_ret
    exact ⟨rfl, Below.refl _ _⟩
  have HAT : Hid _ := hat
  have HOK : Hid _ := hok
  have HL0 : Hid (os.length = N) := hl
  clear hat hok hl
  go_enter Try.func3, Try.ntmps3
  go_wp2_with fail
  refine Calls.mono (alive_any w) ?_
  rintro e w1 ⟨rfl, hb1⟩
  have HB1 : Hid _ := hb1
  clear hb1
  go_wp2_with fail
  refine Calls.mono (slot_any z0 64 w1 (by omega) (by omega) h0) ?_
  rintro e w2 ⟨s, hs0, hs1, rfl, hw2⟩
  replace hw2 := hw2.symm
  subst hw2
  obtain ⟨n, hn⟩ : ∃ n, n = 1 + s := ⟨_, rfl⟩
  have hn2 : 1 ≤ n := by omega
  have hn16 : n ≤ 64 := by omega
  go_wp2_with fail
  rw [← hn]
  clear hn hs0 hs1
  refine Calls.mono (slot_any z1 16 w1 (by omega) (by omega) h1) ?_
  rintro e w2 ⟨s2, hs0, hs1, rfl, hw2⟩
  replace hw2 := hw2.symm
  subst hw2
  obtain ⟨rm, hrm⟩ : ∃ rm : Nat, (rm : Int) = 1 + s2 := ⟨(1 + s2).toNat, by omega⟩
  have hp1 : 1 ≤ rm := by omega
  have hp4 : rm ≤ 16 := by omega
  go_wp2_with fail
  rw [← hrm]
  clear hrm hs0 hs1
  refine Calls.mono (new_ok 0 2 n rm w1 (by decide) ⟨hn2, hn16⟩ ⟨hp1, hp4⟩ (by decide)) ?_
  rintro e w3 ⟨cb, ms, mp, hs, rfl, hM3, hb3, hlo3⟩
  obtain ⟨a, ha⟩ : ∃ a : CA, a = ⟨cb, ms, mp, hs, 0, 2, n, rm⟩ := ⟨_, rfl⟩
  rw [← ha] at hM3 hlo3
  have hcb : cb = a.cb := by rw [ha]
  have HA3 : Hid (a.me = 0 ∧ a.rep = 2 ∧ a.ses = n ∧ a.room = rm) := by rw [ha]; exact ⟨rfl, rfl, rfl, rfl⟩
  subst hcb
  clear ha
  have HCK : Hid (COk a) := hM3.ok
  have hb13 : Below w.heap.size w w3 := HB1.out.trans (hb3.mono HB1.out.size)
  have H0 : Hid (OnA w a cx0 (.slice none 0 0) [] [] w3) := show OnA w a cx0 (.slice none 0 0) [] [] w3 from by
    refine ⟨⟨fun e he => ?_, ?_⟩, Chg.ofBelow _ hb13, fun k hk => Or.inr ?_⟩
    · simp only [List.mem_cons, List.not_mem_nil, or_false] at he
      rcases he with rfl | rfl
      · exact ⟨hM3, fun k hk => Nat.le_trans HB1.out.size (hlo3 k hk)⟩
      · exact World.ownsRow_nil _ _ _ _
    · refine List.pairwise_cons.2 ⟨fun e he k h1 h2 => ?_, List.pairwise_cons.2 ⟨fun e he => (by cases he), List.Pairwise.nil⟩⟩
      simp only [List.mem_cons, List.not_mem_nil, or_false] at he
      subst he
      cases h2
    · obtain ⟨e, he, hv⟩ := hk
      simp only [List.mem_cons, List.not_mem_nil, or_false] at he
      rcases he with rfl | rfl
      · exact Nat.le_trans HB1.out.size (hlo3 k hv)
      · cases hv
  clear hM3 hlo3 hb3 hb13 HB1
  go_wp2_with fail
  refine Calls.mono (num_any 0 w3) ?_
  rintro e w4 ⟨rfl, hw4⟩
  replace hw4 := hw4.symm
  subst hw4
  go_wp2_with fail
  go_loopw [12, 13] (fun s12 s13 wr => ∃ (k : Nat) (v : Value) (l : List Ps) (x : CX) (r : RS), v = s12 ∧ k ≤ N ∧ s13 = .int .i64 k ∧ l.length ≤ k ∧ OnR a l x r ∧ OnA w a x v l [] wr) (fun _ s13 _ => N - (intOf s13).toNat)
  case atStart => exact ⟨0, _, [], cx0, rs0, rfl, by omega, rfl, Nat.le_refl _, on0 HCK.out, H0.out⟩
  case round =>
    obtain ⟨k, v, l, x, r, rfl, hk, rfl, hlk, hR, hA⟩ := hrel
    clear H0
    have HR : Hid (OnR a l x r) := hR
    have HAA : Hid (OnA w a x v l [] wr) := hA
    obtain ⟨aov, capv, hvv, hcv⟩ := own_slice hA.row
    have hcapv : capv ≤ maxLen := by obtain ⟨_, _, e, _, h, _⟩ := own_read hA.row; rw [hvv] at e; cases e; exact h
    unfold maxLen at hcapv
    subst hvv
    obtain ⟨nl, hnl⟩ : ∃ nl, nl = l.length := ⟨_, rfl⟩
    have HNL : Hid (nl = l.length) := hnl
    have hnlk : nl ≤ k := by omega
    rw [← hnl] at hcv HAA ⊢
    clear hR hA hnl hlk
    by_cases hlt : k < N
    · have hkb : k < os.length := by have := HL0.out; omega
      obtain ⟨o, ho⟩ : ∃ o, o = os[k] := ⟨_, rfl⟩
      have hoo : o.ok := HOK.out o (by rw [ho]; exact List.getElem_mem _)
      obtain ⟨b, off, hao, hcell⟩ := HAT.out (by omega)
      subst hao
      have hrow := hcell k o (by rw [ho]; exact List.getElem?_eq_getElem hkb)
      have hRw : RowAt wr b (off + k * 5) o.row := hrow.below HAA.out.below (hrow.lt (by simp [OpC.row]))
      have x0 : wr.cell? ⟨b, off + k * 5, none⟩ = some (.int .i64 o.k) := hRw 0 _ rfl
      have x1 : wr.cell? ⟨b, off + k * 5 + 1, none⟩ = some (.int .i64 o.s) := hRw 1 _ rfl
      have x2 : wr.cell? ⟨b, off + k * 5 + 2, none⟩ = some (.int .i64 o.i) := hRw 2 _ rfl
      have x3 : wr.cell? ⟨b, off + k * 5 + 3, none⟩ = some (.int .i64 o.e) := hRw 3 _ rfl
      have x4 : wr.cell? ⟨b, off + k * 5 + 4, none⟩ = some (.int .i64 o.v) := hRw 4 _ rfl
      have HOO : Hid o.ok := hoo
      clear hrow hcell hkb ho hoo hRw HAT
      obtain ⟨bx, hbx⟩ : ∃ bx, bx = wr.heap.size := ⟨_, rfl⟩
      obtain ⟨X, hX⟩ : ∃ X, X = wr.alloc (.cells #[.int .i64 o.k, .int .i64 o.s, .int .i64 o.i, .int .i64 o.e, .int .i64 o.v] 34) := ⟨_, rfl⟩
      have HX0 : Hid (OnA w a x (.slice aov nl capv) l [boxE w.heap.size bx #[.int .i64 o.k, .int .i64 o.s, .int .i64 o.i, .int .i64 o.e, .int .i64 o.v] 34] X) := show OnA w a x (.slice aov nl capv) l [boxE w.heap.size bx #[.int .i64 o.k, .int .i64 o.s, .int .i64 o.i, .int .i64 o.e, .int .i64 o.v] 34] X from by rw [hX, hbx]; exact HAA.out.box _ _
      go_upto_region 14 with fail
      rw [← hX, ← hbx]
      clear hX hbx x0 x1 x2 x3 x4 HAA
      go_wp2_with fail
      go_loopw [15, 16, 17] (fun s15 s16 s17 wr2 => ∃ (j q : Nat), j ≤ nl ∧ s17 = .int .i64 j ∧ s15 = .int .i64 (lastAt (o.s, o.i) l j) ∧ s16 = .int .i64 ((abv o.s o.i (l.take j) : Nat) : Int) ∧ wr2 = X.drewN q) (fun _ _ s17 _ => nl - (intOf s17).toNat)
      case atStart => exact ⟨0, 0, by omega, rfl, rfl, rfl, rfl⟩
      case round =>
        obtain ⟨j, q, hj, rfl, rfl, rfl, hwr⟩ := hrel
        have hbd := lastAt_bd (o.s, o.i) l j
        obtain ⟨ai, hai⟩ : ∃ ai, ai = lastAt (o.s, o.i) l j := ⟨_, rfl⟩
        have HAI : Hid (ai = lastAt (o.s, o.i) l j) := hai
        rw [← hai] at hbd ⊢
        obtain ⟨bn, hbn⟩ : ∃ bn, bn = abv o.s o.i (l.take j) := ⟨_, rfl⟩
        have HBN : Hid (abv o.s o.i (l.take j) = bn) := hbn.symm
        have hbnj : bn ≤ j := by
          rw [hbn]
          unfold abv
          exact Nat.le_trans List.countP_le_length (by rw [List.length_take]; omega)
        rw [← hbn]
        have HWR : Hid (wr = X.drewN q) := hwr
        have HXr : Hid (OnA w a x (.slice aov nl capv) l [boxE w.heap.size bx #[.int .i64 o.k, .int .i64 o.s, .int .i64 o.i, .int .i64 o.e, .int .i64 o.v] 34] wr) := show OnA w a x (.slice aov nl capv) l [boxE w.heap.size bx #[.int .i64 o.k, .int .i64 o.s, .int .i64 o.i, .int .i64 o.e, .int .i64 o.v] 34] wr from by rw [hwr]; exact HX0.out.more (below_drewN (Below.refl _ _) q)
        clear hai hbn hwr
        have hbB : Blk wr bx #[.int .i64 o.k, .int .i64 o.s, .int .i64 o.i, .int .i64 o.e, .int .i64 o.v] 34 := (HXr.out.get (e := boxE w.heap.size bx #[.int .i64 o.k, .int .i64 o.s, .int .i64 o.i, .int .i64 o.e, .int .i64 o.v] 34) (by simp)).1
        have b0 : wr.cell? ⟨bx, 0, none⟩ = some (.int .i64 o.k) := hbB.cell 0
        have b1 : wr.cell? ⟨bx, 1, none⟩ = some (.int .i64 o.s) := hbB.cell 1
        have b2 : wr.cell? ⟨bx, 2, none⟩ = some (.int .i64 o.i) := hbB.cell 2
        have b3 : wr.cell? ⟨bx, 3, none⟩ = some (.int .i64 o.e) := hbB.cell 3
        have b4 : wr.cell? ⟨bx, 4, none⟩ = some (.int .i64 o.v) := hbB.cell 4
        clear hbB
        by_cases hjl : j < nl
        · have hjl2 : j < l.length := by have := HNL.out; omega
          obtain ⟨p, hp⟩ : ∃ p, l[j]? = some p := ⟨l[j], List.getElem?_eq_getElem _⟩
          obtain ⟨g, hg⟩ : ∃ g, aov = some ⟨g, 0, none⟩ := by
            obtain ⟨_, _, e, _, _, h⟩ := own_read HXr.out.row
            cases e
            obtain ⟨g, e, _⟩ := h (by omega)
            exact ⟨g, e⟩
          subst hg
          have hrw : World.ownsRow wr w.heap.size 38 7 (.slice (some ⟨g, 0, none⟩) nl capv) nl (flatP l) := by have := HXr.out.row; rwa [← HNL.out] at this
          have q0 : wr.cell? ⟨g, j * 7, none⟩ = some (.int .i64 p.c.1) := row_cell (t := 0) hrw hp rfl
          have q1 : wr.cell? ⟨g, j * 7 + 1, none⟩ = some (.int .i64 p.c.2) := row_cell (t := 1) hrw hp rfl
          have q2 : wr.cell? ⟨g, j * 7 + 2, none⟩ = some (.int .i64 p.st) := row_cell (t := 2) hrw hp rfl
          have HBS : Hid (abv o.s o.i (l.take (j + 1)) = abv o.s o.i (l.take j) + if isAbv o.s o.i p then 1 else 0) := abv_step hp
          have HST : Hid (lastAt (o.s, o.i) l (j + 1) = if p.c = (o.s, o.i) then (j : Int) else ai) := show _ = _ from by
            show (if _ then _ else _) = _
            rw [hp, HAI.out]
            simp
          clear hrw hp hjl2 b0 b3 b4
          go_wp2_with fail
          rename_i K hK
          try rw [show ∀ a : Act, a.put none undef = a from fun _ => rfl]
          refine wp_region_mix (fun wz => wz.cell? ⟨g, j * 7, none⟩ = some (.int .i64 p.c.1) ∧ wz.cell? ⟨g, j * 7 + 1, none⟩ = some (.int .i64 p.c.2) ∧ wz.cell? ⟨g, j * 7 + 2, none⟩ = some (.int .i64 p.st) ∧ wz.cell? ⟨bx, 1, none⟩ = some (.int .i64 o.s) ∧ wz.cell? ⟨bx, 2, none⟩ = some (.int .i64 o.i)) (fun i => i == 99) 99 (by kernel_rfl) rfl (by kernel_rfl) (by kernel_rfl) (by kernel_rfl) ?_
          refine withFrP (N := 265) rfl ?_
          intro f0 F0 hff
          have e12 : f0 12 = Value.slice (some ⟨g, 0, none⟩) nl capv := hff 12
          have e14 : f0 14 = Value.pointer (some ⟨bx, 0, none⟩) := hff 14
          have e17 : f0 17 = Value.int .i64 ((j : Nat) : Int) := hff 17
          clear hff
          have HCC : (fun wz => wz.cell? ⟨g, j * 7, none⟩ = some (.int .i64 p.c.1) ∧ wz.cell? ⟨g, j * 7 + 1, none⟩ = some (.int .i64 p.c.2) ∧ wz.cell? ⟨g, j * 7 + 2, none⟩ = some (.int .i64 p.st) ∧ wz.cell? ⟨bx, 1, none⟩ = some (.int .i64 o.s) ∧ wz.cell? ⟨bx, 2, none⟩ = some (.int .i64 o.i)) (({ wr with drawn := wr.drawn + 1 } : World)) := ⟨q0, q1, q2, b1, b2⟩
          refine lyp F0 rfl HCC rfl (by omega) (wanted_none rfl) (v := Value.slice (some ⟨g, 0, none⟩) nl capv) (fun wr hwr => by simp only [execOp, (F0.eval 12 (by omega)).trans (show _ = Value.slice (some ⟨g, 0, none⟩) nl capv from by simp [upd, e12, e14, e17])]; first | rfl | simp [go_sem]) fun Fp1 => ?_
          refine lyp Fp1 rfl HCC rfl (by omega) (wanted_none rfl) (v := Value.int .i64 ((j : Nat) : Int)) (fun wr hwr => by simp only [execOp, (Fp1.eval 17 (by omega)).trans (show _ = Value.int .i64 ((j : Nat) : Int) from by simp [upd, e12, e14, e17])]; first | rfl | simp [go_sem]) fun Fp2 => ?_
          refine lyp Fp2 rfl HCC rfl (by omega) (wanted_none rfl) (v := Value.pointer (some ⟨g, j * 7, none⟩)) (fun wr hwr => by simp only [execOp, (Fp2.eval 66 (by omega)).trans (show _ = Value.slice (some ⟨g, 0, none⟩) nl capv from by simp [upd, e12, e14, e17]), (Fp2.eval 67 (by omega)).trans (show _ = Value.int .i64 ((j : Nat) : Int) from by simp [upd, e12, e14, e17])]; simp only [Sem.run_bind, Sem.run_pure, Result.andThen_ok, idx_run 30 38 7 Try.underlying30 isz38 wr g 0 nl capv j hjl, Nat.zero_add, Nat.mul_one]; try rfl) fun Fp3 => ?_
          refine lyp Fp3 rfl HCC rfl (by omega) (wanted_none rfl) (v := Value.pointer (some ⟨g, j * 7, none⟩)) (fun wr hwr => by simp only [execOp, (Fp3.eval 68 (by omega)).trans (show _ = Value.pointer (some ⟨g, j * 7, none⟩) from by simp [upd, e12, e14, e17])]; simp [go_sem]) fun Fp4 => ?_
          refine lyp Fp4 rfl HCC rfl (by omega) (wanted_none rfl) (v := Value.agg #[.int .i64 p.c.1, .int .i64 p.c.2]) (fun wr hwr => by simp only [execOp, (Fp4.eval 69 (by omega)).trans (show _ = Value.pointer (some ⟨g, j * 7, none⟩) from by simp [upd, e12, e14, e17])]; simp [go_sem, hwr.1, hwr.2.1]) fun Fp5 => ?_
          refine lyp Fp5 rfl HCC rfl (by omega) (wanted_none rfl) (v := Value.pointer (some ⟨bx, 1, none⟩)) (fun wr hwr => by simp only [execOp, (Fp5.eval 14 (by omega)).trans (show _ = Value.pointer (some ⟨bx, 0, none⟩) from by simp [upd, e12, e14, e17])]; simp [go_sem]) fun Fp6 => ?_
          refine lyp Fp6 rfl HCC rfl (by omega) (wanted_none rfl) (v := Value.agg #[.int .i64 o.s, .int .i64 o.i]) (fun wr hwr => by simp only [execOp, (Fp6.eval 71 (by omega)).trans (show _ = Value.pointer (some ⟨bx, 1, none⟩) from by simp [upd, e12, e14, e17])]; simp [go_sem, hwr.2.2.2.1, hwr.2.2.2.2]) fun Fp7 => ?_
          refine lyp Fp7 rfl HCC rfl (by omega) (wanted_none rfl) (v := Value.bool (decide (p.c = (o.s, o.i)))) (fun wr hwr => by simp only [execOp, (Fp7.eval 70 (by omega)).trans (show _ = Value.agg #[.int .i64 p.c.1, .int .i64 p.c.2] from by simp [upd, e12, e14, e17]), (Fp7.eval 72 (by omega)).trans (show _ = Value.agg #[.int .i64 o.s, .int .i64 o.i] from by simp [upd, e12, e14, e17])]; simp [go_sem, Act.eval]; by_cases h1 : p.c.1 = o.s <;> by_cases h2 : p.c.2 = o.i <;> simp [h1, h2, Prod.ext_iff]) fun Fp8 => ?_
          refine ⟨fun _ => HCC, ?_⟩
          refine hK _ _ ?_
          clear F0 Fp1 Fp2 Fp3 Fp4 Fp5 Fp6 Fp7 Fp8 e12 e14 e17 HCC
          simp only [Act.put, List.setIfInBounds_toArray, List.set_cons_succ, List.set_cons_zero]
          by_cases hyx : p.c = (o.s, o.i)
          · rw [show decide (p.c = (o.s, o.i)) = true from decide_eq_true hyx]
            have HLN : Hid (lastAt (o.s, o.i) l (j + 1) = (j : Int)) := show _ = _ from by rw [HST.out, if_pos hyx]
            have he1 : p.c.1 = o.s := by rw [hyx]
            have he2 : ¬ o.i < p.c.2 := by rw [hyx]; omega
            clear hyx HST
            go_wp2_with fail
            have HAB : Hid (isAbv o.s o.i p = false) := show _ = _ from by unfold isAbv; exact decide_eq_false (fun hh => by obtain ⟨u1, u2, u3⟩ := hh; omega)
            have HB1 : Hid (abv o.s o.i (l.take (j + 1)) = bn) := show _ = _ from by rw [HBS.out, HAB.out, HBN.out]; simp
            rename_i K2 hK2
            try rw [show ∀ a : Act, a.put none undef = a from fun _ => rfl]
            refine wp_region_mix (fun wz => wz.cell? ⟨g, j * 7, none⟩ = some (.int .i64 p.c.1) ∧ wz.cell? ⟨g, j * 7 + 1, none⟩ = some (.int .i64 p.c.2) ∧ wz.cell? ⟨g, j * 7 + 2, none⟩ = some (.int .i64 p.st) ∧ wz.cell? ⟨bx, 1, none⟩ = some (.int .i64 o.s) ∧ wz.cell? ⟨bx, 2, none⟩ = some (.int .i64 o.i)) (fun i => i == 99) 99 (by kernel_rfl) rfl (by kernel_rfl) (by kernel_rfl) (by kernel_rfl) ?_
            refine withFrP (N := 265) rfl ?_
            intro f0 F0 hff
            have e12 : f0 12 = Value.slice (some ⟨g, 0, none⟩) nl capv := hff 12
            have e14 : f0 14 = Value.pointer (some ⟨bx, 0, none⟩) := hff 14
            have e17 : f0 17 = Value.int .i64 ((j : Nat) : Int) := hff 17
            clear hff
            have HCC : (fun wz => wz.cell? ⟨g, j * 7, none⟩ = some (.int .i64 p.c.1) ∧ wz.cell? ⟨g, j * 7 + 1, none⟩ = some (.int .i64 p.c.2) ∧ wz.cell? ⟨g, j * 7 + 2, none⟩ = some (.int .i64 p.st) ∧ wz.cell? ⟨bx, 1, none⟩ = some (.int .i64 o.s) ∧ wz.cell? ⟨bx, 2, none⟩ = some (.int .i64 o.i)) (({ ({ wr with drawn := wr.drawn + 1 } : World) with drawn := ({ wr with drawn := wr.drawn + 1 } : World).drawn + 1 } : World)) := ⟨q0, q1, q2, b1, b2⟩
            refine lyp F0 rfl HCC rfl (by omega) (wanted_none rfl) (v := Value.slice (some ⟨g, 0, none⟩) nl capv) (fun wr hwr => by simp only [execOp, (F0.eval 12 (by omega)).trans (show _ = Value.slice (some ⟨g, 0, none⟩) nl capv from by simp [upd, e12, e14, e17])]; first | rfl | simp [go_sem]) fun Fu1 => ?_
            refine lyp Fu1 rfl HCC rfl (by omega) (wanted_none rfl) (v := Value.int .i64 ((j : Nat) : Int)) (fun wr hwr => by simp only [execOp, (Fu1.eval 17 (by omega)).trans (show _ = Value.int .i64 ((j : Nat) : Int) from by simp [upd, e12, e14, e17])]; first | rfl | simp [go_sem]) fun Fu2 => ?_
            refine lyp Fu2 rfl HCC rfl (by omega) (wanted_none rfl) (v := Value.pointer (some ⟨g, j * 7, none⟩)) (fun wr hwr => by simp only [execOp, (Fu2.eval 75 (by omega)).trans (show _ = Value.slice (some ⟨g, 0, none⟩) nl capv from by simp [upd, e12, e14, e17]), (Fu2.eval 76 (by omega)).trans (show _ = Value.int .i64 ((j : Nat) : Int) from by simp [upd, e12, e14, e17])]; simp only [Sem.run_bind, Sem.run_pure, Result.andThen_ok, idx_run 30 38 7 Try.underlying30 isz38 wr g 0 nl capv j hjl, Nat.zero_add, Nat.mul_one]; try rfl) fun Fu3 => ?_
            refine lyp Fu3 rfl HCC rfl (by omega) (wanted_none rfl) (v := Value.pointer (some ⟨g, j * 7, none⟩)) (fun wr hwr => by simp only [execOp, (Fu3.eval 77 (by omega)).trans (show _ = Value.pointer (some ⟨g, j * 7, none⟩) from by simp [upd, e12, e14, e17])]; simp [go_sem]) fun Fu4 => ?_
            refine lyp Fu4 rfl HCC rfl (by omega) (wanted_none rfl) (v := Value.pointer (some ⟨g, j * 7, none⟩)) (fun wr hwr => by simp only [execOp, (Fu4.eval 78 (by omega)).trans (show _ = Value.pointer (some ⟨g, j * 7, none⟩) from by simp [upd, e12, e14, e17])]; simp [go_sem]) fun Fu5 => ?_
            refine lyp Fu5 rfl HCC rfl (by omega) (wanted_none rfl) (v := Value.int .i64 p.c.1) (fun wr hwr => by simp only [execOp, (Fu5.eval 79 (by omega)).trans (show _ = Value.pointer (some ⟨g, j * 7, none⟩) from by simp [upd, e12, e14, e17])]; simp [go_sem, hwr.1]) fun Fu6 => ?_
            refine lyp Fu6 rfl HCC rfl (by omega) (wanted_none rfl) (v := Value.pointer (some ⟨bx, 1, none⟩)) (fun wr hwr => by simp only [execOp, (Fu6.eval 14 (by omega)).trans (show _ = Value.pointer (some ⟨bx, 0, none⟩) from by simp [upd, e12, e14, e17])]; simp [go_sem]) fun Fu7 => ?_
            refine lyp Fu7 rfl HCC rfl (by omega) (wanted_none rfl) (v := Value.pointer (some ⟨bx, 1, none⟩)) (fun wr hwr => by simp only [execOp, (Fu7.eval 81 (by omega)).trans (show _ = Value.pointer (some ⟨bx, 1, none⟩) from by simp [upd, e12, e14, e17])]; simp [go_sem]) fun Fu8 => ?_
            refine lyp Fu8 rfl HCC rfl (by omega) (wanted_none rfl) (v := Value.int .i64 o.s) (fun wr hwr => by simp only [execOp, (Fu8.eval 82 (by omega)).trans (show _ = Value.pointer (some ⟨bx, 1, none⟩) from by simp [upd, e12, e14, e17])]; simp [go_sem, hwr.2.2.2.1]) fun Fu9 => ?_
            refine lyp Fu9 rfl HCC rfl (by omega) (wanted_none rfl) (v := Value.bool true) (fun wr hwr => by simp only [execOp, (Fu9.eval 80 (by omega)).trans (show _ = Value.int .i64 p.c.1 from by simp [upd, e12, e14, e17]), (Fu9.eval 83 (by omega)).trans (show _ = Value.int .i64 o.s from by simp [upd, e12, e14, e17])]; simp [go_sem, Act.eval, he1]) fun Fu10 => ?_
            refine lyp Fu10 rfl HCC rfl (by omega) (wanted_none rfl) (v := Value.bool true) (fun wr hwr => by simp only [execOp, (Fu10.eval 84 (by omega)).trans (show _ = Value.bool true from by simp [upd, e12, e14, e17])]; first | rfl | simp [go_sem]) fun Fu11 => ?_
            refine lyp Fu11 rfl HCC rfl (by omega) (want_yes Fu11 rfl (e := 85) rfl (by omega) (show _ = Value.bool true from by simp [upd, e12, e14, e17])) (v := Value.slice (some ⟨g, 0, none⟩) nl capv) (fun wr hwr => by simp only [execOp, (Fu11.eval 12 (by omega)).trans (show _ = Value.slice (some ⟨g, 0, none⟩) nl capv from by simp [upd, e12, e14, e17])]; first | rfl | simp [go_sem]) fun Fu12 => ?_
            refine lyp Fu12 rfl HCC rfl (by omega) (want_yes Fu12 rfl (e := 85) rfl (by omega) (show _ = Value.bool true from by simp [upd, e12, e14, e17])) (v := Value.int .i64 ((j : Nat) : Int)) (fun wr hwr => by simp only [execOp, (Fu12.eval 17 (by omega)).trans (show _ = Value.int .i64 ((j : Nat) : Int) from by simp [upd, e12, e14, e17])]; first | rfl | simp [go_sem]) fun Fu13 => ?_
            refine lyp Fu13 rfl HCC rfl (by omega) (want_yes Fu13 rfl (e := 85) rfl (by omega) (show _ = Value.bool true from by simp [upd, e12, e14, e17])) (v := Value.pointer (some ⟨g, j * 7, none⟩)) (fun wr hwr => by simp only [execOp, (Fu13.eval 86 (by omega)).trans (show _ = Value.slice (some ⟨g, 0, none⟩) nl capv from by simp [upd, e12, e14, e17]), (Fu13.eval 87 (by omega)).trans (show _ = Value.int .i64 ((j : Nat) : Int) from by simp [upd, e12, e14, e17])]; simp only [Sem.run_bind, Sem.run_pure, Result.andThen_ok, idx_run 30 38 7 Try.underlying30 isz38 wr g 0 nl capv j hjl, Nat.zero_add, Nat.mul_one]; try rfl) fun Fu14 => ?_
            refine lyp Fu14 rfl HCC rfl (by omega) (want_yes Fu14 rfl (e := 85) rfl (by omega) (show _ = Value.bool true from by simp [upd, e12, e14, e17])) (v := Value.pointer (some ⟨g, j * 7, none⟩)) (fun wr hwr => by simp only [execOp, (Fu14.eval 88 (by omega)).trans (show _ = Value.pointer (some ⟨g, j * 7, none⟩) from by simp [upd, e12, e14, e17])]; simp [go_sem]) fun Fu15 => ?_
            refine lyp Fu15 rfl HCC rfl (by omega) (want_yes Fu15 rfl (e := 85) rfl (by omega) (show _ = Value.bool true from by simp [upd, e12, e14, e17])) (v := Value.pointer (some ⟨g, j * 7 + 1, none⟩)) (fun wr hwr => by simp only [execOp, (Fu15.eval 89 (by omega)).trans (show _ = Value.pointer (some ⟨g, j * 7, none⟩) from by simp [upd, e12, e14, e17])]; simp [go_sem]) fun Fu16 => ?_
            refine lyp Fu16 rfl HCC rfl (by omega) (want_yes Fu16 rfl (e := 85) rfl (by omega) (show _ = Value.bool true from by simp [upd, e12, e14, e17])) (v := Value.int .i64 p.c.2) (fun wr hwr => by simp only [execOp, (Fu16.eval 90 (by omega)).trans (show _ = Value.pointer (some ⟨g, j * 7 + 1, none⟩) from by simp [upd, e12, e14, e17])]; simp [go_sem, hwr.2.1]) fun Fu17 => ?_
            refine lyp Fu17 rfl HCC rfl (by omega) (want_yes Fu17 rfl (e := 85) rfl (by omega) (show _ = Value.bool true from by simp [upd, e12, e14, e17])) (v := Value.pointer (some ⟨bx, 1, none⟩)) (fun wr hwr => by simp only [execOp, (Fu17.eval 14 (by omega)).trans (show _ = Value.pointer (some ⟨bx, 0, none⟩) from by simp [upd, e12, e14, e17])]; simp [go_sem]) fun Fu18 => ?_
            refine lyp Fu18 rfl HCC rfl (by omega) (want_yes Fu18 rfl (e := 85) rfl (by omega) (show _ = Value.bool true from by simp [upd, e12, e14, e17])) (v := Value.pointer (some ⟨bx, 2, none⟩)) (fun wr hwr => by simp only [execOp, (Fu18.eval 92 (by omega)).trans (show _ = Value.pointer (some ⟨bx, 1, none⟩) from by simp [upd, e12, e14, e17])]; simp [go_sem]) fun Fu19 => ?_
            refine lyp Fu19 rfl HCC rfl (by omega) (want_yes Fu19 rfl (e := 85) rfl (by omega) (show _ = Value.bool true from by simp [upd, e12, e14, e17])) (v := Value.int .i64 o.i) (fun wr hwr => by simp only [execOp, (Fu19.eval 93 (by omega)).trans (show _ = Value.pointer (some ⟨bx, 2, none⟩) from by simp [upd, e12, e14, e17])]; simp [go_sem, hwr.2.2.2.2]) fun Fu20 => ?_
            refine lyp Fu20 rfl HCC rfl (by omega) (want_yes Fu20 rfl (e := 85) rfl (by omega) (show _ = Value.bool true from by simp [upd, e12, e14, e17])) (v := Value.bool false) (fun wr hwr => by simp only [execOp, (Fu20.eval 91 (by omega)).trans (show _ = Value.int .i64 p.c.2 from by simp [upd, e12, e14, e17]), (Fu20.eval 94 (by omega)).trans (show _ = Value.int .i64 o.i from by simp [upd, e12, e14, e17])]; simp [go_sem, Act.eval, he2]) fun Fu21 => ?_
            refine lyp Fu21 rfl HCC rfl (by omega) (wanted_none rfl) (v := Value.bool false) (fun wr hwr => by simp only [execOp, (Fu21.eval 85 (by omega)).trans (show _ = Value.bool true from by simp [upd, e12, e14, e17]), (Fu21.eval 95 (by omega)).trans (show _ = Value.bool false from by simp [upd, e12, e14, e17])]; simp [go_sem, Act.eval]) fun Fu22 => ?_
            refine lyp Fu22 rfl HCC rfl (by omega) (wanted_none rfl) (v := Value.bool false) (fun wr hwr => by simp only [execOp, (Fu22.eval 96 (by omega)).trans (show _ = Value.bool false from by simp [upd, e12, e14, e17])]; first | rfl | simp [go_sem]) fun Fu23 => ?_
            refine lnp Fu23 rfl HCC rfl (by omega) (want_no Fu23 rfl (e := 97) rfl (by omega) (show _ = Value.bool false from by simp [upd, e12, e14, e17]) (by decide)) fun Fu24 => ?_
            refine lnp Fu24 rfl HCC rfl (by omega) (want_no Fu24 rfl (e := 97) rfl (by omega) (show _ = Value.bool false from by simp [upd, e12, e14, e17]) (by decide)) fun Fu25 => ?_
            refine lnp Fu25 rfl HCC rfl (by omega) (want_no Fu25 rfl (e := 97) rfl (by omega) (show _ = Value.bool false from by simp [upd, e12, e14, e17]) (by decide)) fun Fu26 => ?_
            refine lnp Fu26 rfl HCC rfl (by omega) (want_no Fu26 rfl (e := 97) rfl (by omega) (show _ = Value.bool false from by simp [upd, e12, e14, e17]) (by decide)) fun Fu27 => ?_
            refine lnp Fu27 rfl HCC rfl (by omega) (want_no Fu27 rfl (e := 97) rfl (by omega) (show _ = Value.bool false from by simp [upd, e12, e14, e17]) (by decide)) fun Fu28 => ?_
            refine lnp Fu28 rfl HCC rfl (by omega) (want_no Fu28 rfl (e := 97) rfl (by omega) (show _ = Value.bool false from by simp [upd, e12, e14, e17]) (by decide)) fun Fu29 => ?_
            refine lyp Fu29 rfl HCC rfl (by omega) (wanted_none rfl) (v := Value.bool false) (fun wr hwr => by simp only [execOp, (Fu29.eval 97 (by omega)).trans (show _ = Value.bool false from by simp [upd, e12, e14, e17])]; simp [go_sem, Act.eval]) fun Fu30 => ?_
            refine ⟨fun _ => HCC, ?_⟩
            refine hK2 _ _ ?_
            clear F0 Fu1 Fu2 Fu3 Fu4 Fu5 Fu6 Fu7 Fu8 Fu9 Fu10 Fu11 Fu12 Fu13 Fu14 Fu15 Fu16 Fu17 Fu18 Fu19 Fu20 Fu21 Fu22 Fu23 Fu24 Fu25 Fu26 Fu27 Fu28 Fu29 Fu30 e12 e14 e17 HCC q0 q1 q2 b1 b2
            simp only [Act.put, List.setIfInBounds_toArray, List.set_cons_succ, List.set_cons_zero]
            clear he1 he2 HAB
            go_wp2_with fail
            go_roundw
            case rel => exact ⟨j + 1, q + 2, by omega, by go_num, by rw [HLN.out], by rw [HB1.out], by rw [HWR.out]; rfl⟩
            case measure => simp [intOf]; omega
          · rw [show decide (p.c = (o.s, o.i)) = false from decide_eq_false hyx]
            have HLN : Hid (lastAt (o.s, o.i) l (j + 1) = ai) := show _ = _ from by rw [HST.out, if_neg hyx]
            clear hyx HST
            go_wp2_with fail
            by_cases he1 : p.c.1 = o.s
            · by_cases he2 : o.i < p.c.2
              · by_cases he3 : p.st = 2
                · have HAB : Hid (isAbv o.s o.i p = true) := show _ = _ from by unfold isAbv; exact decide_eq_true ⟨he1, he2, he3⟩
                  have HB1 : Hid (abv o.s o.i (l.take (j + 1)) = bn + 1) := show _ = _ from by rw [HBS.out, HAB.out, HBN.out]; simp
                  rename_i K2 hK2
                  try rw [show ∀ a : Act, a.put none undef = a from fun _ => rfl]
                  refine wp_region_mix (fun wz => wz.cell? ⟨g, j * 7, none⟩ = some (.int .i64 p.c.1) ∧ wz.cell? ⟨g, j * 7 + 1, none⟩ = some (.int .i64 p.c.2) ∧ wz.cell? ⟨g, j * 7 + 2, none⟩ = some (.int .i64 p.st) ∧ wz.cell? ⟨bx, 1, none⟩ = some (.int .i64 o.s) ∧ wz.cell? ⟨bx, 2, none⟩ = some (.int .i64 o.i)) (fun i => i == 99) 99 (by kernel_rfl) rfl (by kernel_rfl) (by kernel_rfl) (by kernel_rfl) ?_
                  refine withFrP (N := 265) rfl ?_
                  intro f0 F0 hff
                  have e12 : f0 12 = Value.slice (some ⟨g, 0, none⟩) nl capv := hff 12
                  have e14 : f0 14 = Value.pointer (some ⟨bx, 0, none⟩) := hff 14
                  have e17 : f0 17 = Value.int .i64 ((j : Nat) : Int) := hff 17
                  clear hff
                  have HCC : (fun wz => wz.cell? ⟨g, j * 7, none⟩ = some (.int .i64 p.c.1) ∧ wz.cell? ⟨g, j * 7 + 1, none⟩ = some (.int .i64 p.c.2) ∧ wz.cell? ⟨g, j * 7 + 2, none⟩ = some (.int .i64 p.st) ∧ wz.cell? ⟨bx, 1, none⟩ = some (.int .i64 o.s) ∧ wz.cell? ⟨bx, 2, none⟩ = some (.int .i64 o.i)) (({ ({ wr with drawn := wr.drawn + 1 } : World) with drawn := ({ wr with drawn := wr.drawn + 1 } : World).drawn + 1 } : World)) := ⟨q0, q1, q2, b1, b2⟩
                  refine lyp F0 rfl HCC rfl (by omega) (wanted_none rfl) (v := Value.slice (some ⟨g, 0, none⟩) nl capv) (fun wr hwr => by simp only [execOp, (F0.eval 12 (by omega)).trans (show _ = Value.slice (some ⟨g, 0, none⟩) nl capv from by simp [upd, e12, e14, e17])]; first | rfl | simp [go_sem]) fun Fu1 => ?_
                  refine lyp Fu1 rfl HCC rfl (by omega) (wanted_none rfl) (v := Value.int .i64 ((j : Nat) : Int)) (fun wr hwr => by simp only [execOp, (Fu1.eval 17 (by omega)).trans (show _ = Value.int .i64 ((j : Nat) : Int) from by simp [upd, e12, e14, e17])]; first | rfl | simp [go_sem]) fun Fu2 => ?_
                  refine lyp Fu2 rfl HCC rfl (by omega) (wanted_none rfl) (v := Value.pointer (some ⟨g, j * 7, none⟩)) (fun wr hwr => by simp only [execOp, (Fu2.eval 75 (by omega)).trans (show _ = Value.slice (some ⟨g, 0, none⟩) nl capv from by simp [upd, e12, e14, e17]), (Fu2.eval 76 (by omega)).trans (show _ = Value.int .i64 ((j : Nat) : Int) from by simp [upd, e12, e14, e17])]; simp only [Sem.run_bind, Sem.run_pure, Result.andThen_ok, idx_run 30 38 7 Try.underlying30 isz38 wr g 0 nl capv j hjl, Nat.zero_add, Nat.mul_one]; try rfl) fun Fu3 => ?_
                  refine lyp Fu3 rfl HCC rfl (by omega) (wanted_none rfl) (v := Value.pointer (some ⟨g, j * 7, none⟩)) (fun wr hwr => by simp only [execOp, (Fu3.eval 77 (by omega)).trans (show _ = Value.pointer (some ⟨g, j * 7, none⟩) from by simp [upd, e12, e14, e17])]; simp [go_sem]) fun Fu4 => ?_
                  refine lyp Fu4 rfl HCC rfl (by omega) (wanted_none rfl) (v := Value.pointer (some ⟨g, j * 7, none⟩)) (fun wr hwr => by simp only [execOp, (Fu4.eval 78 (by omega)).trans (show _ = Value.pointer (some ⟨g, j * 7, none⟩) from by simp [upd, e12, e14, e17])]; simp [go_sem]) fun Fu5 => ?_
                  refine lyp Fu5 rfl HCC rfl (by omega) (wanted_none rfl) (v := Value.int .i64 p.c.1) (fun wr hwr => by simp only [execOp, (Fu5.eval 79 (by omega)).trans (show _ = Value.pointer (some ⟨g, j * 7, none⟩) from by simp [upd, e12, e14, e17])]; simp [go_sem, hwr.1]) fun Fu6 => ?_
                  refine lyp Fu6 rfl HCC rfl (by omega) (wanted_none rfl) (v := Value.pointer (some ⟨bx, 1, none⟩)) (fun wr hwr => by simp only [execOp, (Fu6.eval 14 (by omega)).trans (show _ = Value.pointer (some ⟨bx, 0, none⟩) from by simp [upd, e12, e14, e17])]; simp [go_sem]) fun Fu7 => ?_
                  refine lyp Fu7 rfl HCC rfl (by omega) (wanted_none rfl) (v := Value.pointer (some ⟨bx, 1, none⟩)) (fun wr hwr => by simp only [execOp, (Fu7.eval 81 (by omega)).trans (show _ = Value.pointer (some ⟨bx, 1, none⟩) from by simp [upd, e12, e14, e17])]; simp [go_sem]) fun Fu8 => ?_
                  refine lyp Fu8 rfl HCC rfl (by omega) (wanted_none rfl) (v := Value.int .i64 o.s) (fun wr hwr => by simp only [execOp, (Fu8.eval 82 (by omega)).trans (show _ = Value.pointer (some ⟨bx, 1, none⟩) from by simp [upd, e12, e14, e17])]; simp [go_sem, hwr.2.2.2.1]) fun Fu9 => ?_
                  refine lyp Fu9 rfl HCC rfl (by omega) (wanted_none rfl) (v := Value.bool true) (fun wr hwr => by simp only [execOp, (Fu9.eval 80 (by omega)).trans (show _ = Value.int .i64 p.c.1 from by simp [upd, e12, e14, e17]), (Fu9.eval 83 (by omega)).trans (show _ = Value.int .i64 o.s from by simp [upd, e12, e14, e17])]; simp [go_sem, Act.eval, he1]) fun Fu10 => ?_
                  refine lyp Fu10 rfl HCC rfl (by omega) (wanted_none rfl) (v := Value.bool true) (fun wr hwr => by simp only [execOp, (Fu10.eval 84 (by omega)).trans (show _ = Value.bool true from by simp [upd, e12, e14, e17])]; first | rfl | simp [go_sem]) fun Fu11 => ?_
                  refine lyp Fu11 rfl HCC rfl (by omega) (want_yes Fu11 rfl (e := 85) rfl (by omega) (show _ = Value.bool true from by simp [upd, e12, e14, e17])) (v := Value.slice (some ⟨g, 0, none⟩) nl capv) (fun wr hwr => by simp only [execOp, (Fu11.eval 12 (by omega)).trans (show _ = Value.slice (some ⟨g, 0, none⟩) nl capv from by simp [upd, e12, e14, e17])]; first | rfl | simp [go_sem]) fun Fu12 => ?_
                  refine lyp Fu12 rfl HCC rfl (by omega) (want_yes Fu12 rfl (e := 85) rfl (by omega) (show _ = Value.bool true from by simp [upd, e12, e14, e17])) (v := Value.int .i64 ((j : Nat) : Int)) (fun wr hwr => by simp only [execOp, (Fu12.eval 17 (by omega)).trans (show _ = Value.int .i64 ((j : Nat) : Int) from by simp [upd, e12, e14, e17])]; first | rfl | simp [go_sem]) fun Fu13 => ?_
                  refine lyp Fu13 rfl HCC rfl (by omega) (want_yes Fu13 rfl (e := 85) rfl (by omega) (show _ = Value.bool true from by simp [upd, e12, e14, e17])) (v := Value.pointer (some ⟨g, j * 7, none⟩)) (fun wr hwr => by simp only [execOp, (Fu13.eval 86 (by omega)).trans (show _ = Value.slice (some ⟨g, 0, none⟩) nl capv from by simp [upd, e12, e14, e17]), (Fu13.eval 87 (by omega)).trans (show _ = Value.int .i64 ((j : Nat) : Int) from by simp [upd, e12, e14, e17])]; simp only [Sem.run_bind, Sem.run_pure, Result.andThen_ok, idx_run 30 38 7 Try.underlying30 isz38 wr g 0 nl capv j hjl, Nat.zero_add, Nat.mul_one]; try rfl) fun Fu14 => ?_
                  refine lyp Fu14 rfl HCC rfl (by omega) (want_yes Fu14 rfl (e := 85) rfl (by omega) (show _ = Value.bool true from by simp [upd, e12, e14, e17])) (v := Value.pointer (some ⟨g, j * 7, none⟩)) (fun wr hwr => by simp only [execOp, (Fu14.eval 88 (by omega)).trans (show _ = Value.pointer (some ⟨g, j * 7, none⟩) from by simp [upd, e12, e14, e17])]; simp [go_sem]) fun Fu15 => ?_
                  refine lyp Fu15 rfl HCC rfl (by omega) (want_yes Fu15 rfl (e := 85) rfl (by omega) (show _ = Value.bool true from by simp [upd, e12, e14, e17])) (v := Value.pointer (some ⟨g, j * 7 + 1, none⟩)) (fun wr hwr => by simp only [execOp, (Fu15.eval 89 (by omega)).trans (show _ = Value.pointer (some ⟨g, j * 7, none⟩) from by simp [upd, e12, e14, e17])]; simp [go_sem]) fun Fu16 => ?_
                  refine lyp Fu16 rfl HCC rfl (by omega) (want_yes Fu16 rfl (e := 85) rfl (by omega) (show _ = Value.bool true from by simp [upd, e12, e14, e17])) (v := Value.int .i64 p.c.2) (fun wr hwr => by simp only [execOp, (Fu16.eval 90 (by omega)).trans (show _ = Value.pointer (some ⟨g, j * 7 + 1, none⟩) from by simp [upd, e12, e14, e17])]; simp [go_sem, hwr.2.1]) fun Fu17 => ?_
                  refine lyp Fu17 rfl HCC rfl (by omega) (want_yes Fu17 rfl (e := 85) rfl (by omega) (show _ = Value.bool true from by simp [upd, e12, e14, e17])) (v := Value.pointer (some ⟨bx, 1, none⟩)) (fun wr hwr => by simp only [execOp, (Fu17.eval 14 (by omega)).trans (show _ = Value.pointer (some ⟨bx, 0, none⟩) from by simp [upd, e12, e14, e17])]; simp [go_sem]) fun Fu18 => ?_
                  refine lyp Fu18 rfl HCC rfl (by omega) (want_yes Fu18 rfl (e := 85) rfl (by omega) (show _ = Value.bool true from by simp [upd, e12, e14, e17])) (v := Value.pointer (some ⟨bx, 2, none⟩)) (fun wr hwr => by simp only [execOp, (Fu18.eval 92 (by omega)).trans (show _ = Value.pointer (some ⟨bx, 1, none⟩) from by simp [upd, e12, e14, e17])]; simp [go_sem]) fun Fu19 => ?_
                  refine lyp Fu19 rfl HCC rfl (by omega) (want_yes Fu19 rfl (e := 85) rfl (by omega) (show _ = Value.bool true from by simp [upd, e12, e14, e17])) (v := Value.int .i64 o.i) (fun wr hwr => by simp only [execOp, (Fu19.eval 93 (by omega)).trans (show _ = Value.pointer (some ⟨bx, 2, none⟩) from by simp [upd, e12, e14, e17])]; simp [go_sem, hwr.2.2.2.2]) fun Fu20 => ?_
                  refine lyp Fu20 rfl HCC rfl (by omega) (want_yes Fu20 rfl (e := 85) rfl (by omega) (show _ = Value.bool true from by simp [upd, e12, e14, e17])) (v := Value.bool true) (fun wr hwr => by simp only [execOp, (Fu20.eval 91 (by omega)).trans (show _ = Value.int .i64 p.c.2 from by simp [upd, e12, e14, e17]), (Fu20.eval 94 (by omega)).trans (show _ = Value.int .i64 o.i from by simp [upd, e12, e14, e17])]; simp [go_sem, Act.eval, he2]) fun Fu21 => ?_
                  refine lyp Fu21 rfl HCC rfl (by omega) (wanted_none rfl) (v := Value.bool true) (fun wr hwr => by simp only [execOp, (Fu21.eval 85 (by omega)).trans (show _ = Value.bool true from by simp [upd, e12, e14, e17]), (Fu21.eval 95 (by omega)).trans (show _ = Value.bool true from by simp [upd, e12, e14, e17])]; simp [go_sem, Act.eval]) fun Fu22 => ?_
                  refine lyp Fu22 rfl HCC rfl (by omega) (wanted_none rfl) (v := Value.bool true) (fun wr hwr => by simp only [execOp, (Fu22.eval 96 (by omega)).trans (show _ = Value.bool true from by simp [upd, e12, e14, e17])]; first | rfl | simp [go_sem]) fun Fu23 => ?_
                  refine lyp Fu23 rfl HCC rfl (by omega) (want_yes Fu23 rfl (e := 97) rfl (by omega) (show _ = Value.bool true from by simp [upd, e12, e14, e17])) (v := Value.slice (some ⟨g, 0, none⟩) nl capv) (fun wr hwr => by simp only [execOp, (Fu23.eval 12 (by omega)).trans (show _ = Value.slice (some ⟨g, 0, none⟩) nl capv from by simp [upd, e12, e14, e17])]; first | rfl | simp [go_sem]) fun Fu24 => ?_
                  refine lyp Fu24 rfl HCC rfl (by omega) (want_yes Fu24 rfl (e := 97) rfl (by omega) (show _ = Value.bool true from by simp [upd, e12, e14, e17])) (v := Value.int .i64 ((j : Nat) : Int)) (fun wr hwr => by simp only [execOp, (Fu24.eval 17 (by omega)).trans (show _ = Value.int .i64 ((j : Nat) : Int) from by simp [upd, e12, e14, e17])]; first | rfl | simp [go_sem]) fun Fu25 => ?_
                  refine lyp Fu25 rfl HCC rfl (by omega) (want_yes Fu25 rfl (e := 97) rfl (by omega) (show _ = Value.bool true from by simp [upd, e12, e14, e17])) (v := Value.pointer (some ⟨g, j * 7, none⟩)) (fun wr hwr => by simp only [execOp, (Fu25.eval 98 (by omega)).trans (show _ = Value.slice (some ⟨g, 0, none⟩) nl capv from by simp [upd, e12, e14, e17]), (Fu25.eval 99 (by omega)).trans (show _ = Value.int .i64 ((j : Nat) : Int) from by simp [upd, e12, e14, e17])]; simp only [Sem.run_bind, Sem.run_pure, Result.andThen_ok, idx_run 30 38 7 Try.underlying30 isz38 wr g 0 nl capv j hjl, Nat.zero_add, Nat.mul_one]; try rfl) fun Fu26 => ?_
                  refine lyp Fu26 rfl HCC rfl (by omega) (want_yes Fu26 rfl (e := 97) rfl (by omega) (show _ = Value.bool true from by simp [upd, e12, e14, e17])) (v := Value.pointer (some ⟨g, j * 7 + 2, none⟩)) (fun wr hwr => by simp only [execOp, (Fu26.eval 100 (by omega)).trans (show _ = Value.pointer (some ⟨g, j * 7, none⟩) from by simp [upd, e12, e14, e17])]; simp [go_sem]) fun Fu27 => ?_
                  refine lyp Fu27 rfl HCC rfl (by omega) (want_yes Fu27 rfl (e := 97) rfl (by omega) (show _ = Value.bool true from by simp [upd, e12, e14, e17])) (v := Value.int .i64 p.st) (fun wr hwr => by simp only [execOp, (Fu27.eval 101 (by omega)).trans (show _ = Value.pointer (some ⟨g, j * 7 + 2, none⟩) from by simp [upd, e12, e14, e17])]; simp [go_sem, hwr.2.2.1]) fun Fu28 => ?_
                  refine lyp Fu28 rfl HCC rfl (by omega) (want_yes Fu28 rfl (e := 97) rfl (by omega) (show _ = Value.bool true from by simp [upd, e12, e14, e17])) (v := Value.bool true) (fun wr hwr => by simp only [execOp, (Fu28.eval 102 (by omega)).trans (show _ = Value.int .i64 p.st from by simp [upd, e12, e14, e17])]; simp [go_sem, Act.eval, he3]) fun Fu29 => ?_
                  refine lyp Fu29 rfl HCC rfl (by omega) (wanted_none rfl) (v := Value.bool true) (fun wr hwr => by simp only [execOp, (Fu29.eval 97 (by omega)).trans (show _ = Value.bool true from by simp [upd, e12, e14, e17]), (Fu29.eval 103 (by omega)).trans (show _ = Value.bool true from by simp [upd, e12, e14, e17])]; simp [go_sem, Act.eval]) fun Fu30 => ?_
                  refine ⟨fun _ => HCC, ?_⟩
                  refine hK2 _ _ ?_
                  clear F0 Fu1 Fu2 Fu3 Fu4 Fu5 Fu6 Fu7 Fu8 Fu9 Fu10 Fu11 Fu12 Fu13 Fu14 Fu15 Fu16 Fu17 Fu18 Fu19 Fu20 Fu21 Fu22 Fu23 Fu24 Fu25 Fu26 Fu27 Fu28 Fu29 Fu30 e12 e14 e17 HCC q0 q1 q2 b1 b2
                  simp only [Act.put, List.setIfInBounds_toArray, List.set_cons_succ, List.set_cons_zero]
                  clear he1 he2 he3 HAB
                  go_wp2_with fail
                  go_roundw
                  case rel => exact ⟨j + 1, q + 2, by omega, by go_num, by rw [HLN.out], by rw [HB1.out]; go_num, by rw [HWR.out]; rfl⟩
                  case measure => simp [intOf]; omega
                · have HAB : Hid (isAbv o.s o.i p = false) := show _ = _ from by unfold isAbv; exact decide_eq_false (fun hh => by obtain ⟨u1, u2, u3⟩ := hh; omega)
                  have HB1 : Hid (abv o.s o.i (l.take (j + 1)) = bn) := show _ = _ from by rw [HBS.out, HAB.out, HBN.out]; simp
                  rename_i K2 hK2
                  try rw [show ∀ a : Act, a.put none undef = a from fun _ => rfl]
                  refine wp_region_mix (fun wz => wz.cell? ⟨g, j * 7, none⟩ = some (.int .i64 p.c.1) ∧ wz.cell? ⟨g, j * 7 + 1, none⟩ = some (.int .i64 p.c.2) ∧ wz.cell? ⟨g, j * 7 + 2, none⟩ = some (.int .i64 p.st) ∧ wz.cell? ⟨bx, 1, none⟩ = some (.int .i64 o.s) ∧ wz.cell? ⟨bx, 2, none⟩ = some (.int .i64 o.i)) (fun i => i == 99) 99 (by kernel_rfl) rfl (by kernel_rfl) (by kernel_rfl) (by kernel_rfl) ?_
                  refine withFrP (N := 265) rfl ?_
                  intro f0 F0 hff
                  have e12 : f0 12 = Value.slice (some ⟨g, 0, none⟩) nl capv := hff 12
                  have e14 : f0 14 = Value.pointer (some ⟨bx, 0, none⟩) := hff 14
                  have e17 : f0 17 = Value.int .i64 ((j : Nat) : Int) := hff 17
                  clear hff
                  have HCC : (fun wz => wz.cell? ⟨g, j * 7, none⟩ = some (.int .i64 p.c.1) ∧ wz.cell? ⟨g, j * 7 + 1, none⟩ = some (.int .i64 p.c.2) ∧ wz.cell? ⟨g, j * 7 + 2, none⟩ = some (.int .i64 p.st) ∧ wz.cell? ⟨bx, 1, none⟩ = some (.int .i64 o.s) ∧ wz.cell? ⟨bx, 2, none⟩ = some (.int .i64 o.i)) (({ ({ wr with drawn := wr.drawn + 1 } : World) with drawn := ({ wr with drawn := wr.drawn + 1 } : World).drawn + 1 } : World)) := ⟨q0, q1, q2, b1, b2⟩
                  refine lyp F0 rfl HCC rfl (by omega) (wanted_none rfl) (v := Value.slice (some ⟨g, 0, none⟩) nl capv) (fun wr hwr => by simp only [execOp, (F0.eval 12 (by omega)).trans (show _ = Value.slice (some ⟨g, 0, none⟩) nl capv from by simp [upd, e12, e14, e17])]; first | rfl | simp [go_sem]) fun Fu1 => ?_
                  refine lyp Fu1 rfl HCC rfl (by omega) (wanted_none rfl) (v := Value.int .i64 ((j : Nat) : Int)) (fun wr hwr => by simp only [execOp, (Fu1.eval 17 (by omega)).trans (show _ = Value.int .i64 ((j : Nat) : Int) from by simp [upd, e12, e14, e17])]; first | rfl | simp [go_sem]) fun Fu2 => ?_
                  refine lyp Fu2 rfl HCC rfl (by omega) (wanted_none rfl) (v := Value.pointer (some ⟨g, j * 7, none⟩)) (fun wr hwr => by simp only [execOp, (Fu2.eval 75 (by omega)).trans (show _ = Value.slice (some ⟨g, 0, none⟩) nl capv from by simp [upd, e12, e14, e17]), (Fu2.eval 76 (by omega)).trans (show _ = Value.int .i64 ((j : Nat) : Int) from by simp [upd, e12, e14, e17])]; simp only [Sem.run_bind, Sem.run_pure, Result.andThen_ok, idx_run 30 38 7 Try.underlying30 isz38 wr g 0 nl capv j hjl, Nat.zero_add, Nat.mul_one]; try rfl) fun Fu3 => ?_
                  refine lyp Fu3 rfl HCC rfl (by omega) (wanted_none rfl) (v := Value.pointer (some ⟨g, j * 7, none⟩)) (fun wr hwr => by simp only [execOp, (Fu3.eval 77 (by omega)).trans (show _ = Value.pointer (some ⟨g, j * 7, none⟩) from by simp [upd, e12, e14, e17])]; simp [go_sem]) fun Fu4 => ?_
                  refine lyp Fu4 rfl HCC rfl (by omega) (wanted_none rfl) (v := Value.pointer (some ⟨g, j * 7, none⟩)) (fun wr hwr => by simp only [execOp, (Fu4.eval 78 (by omega)).trans (show _ = Value.pointer (some ⟨g, j * 7, none⟩) from by simp [upd, e12, e14, e17])]; simp [go_sem]) fun Fu5 => ?_
                  refine lyp Fu5 rfl HCC rfl (by omega) (wanted_none rfl) (v := Value.int .i64 p.c.1) (fun wr hwr => by simp only [execOp, (Fu5.eval 79 (by omega)).trans (show _ = Value.pointer (some ⟨g, j * 7, none⟩) from by simp [upd, e12, e14, e17])]; simp [go_sem, hwr.1]) fun Fu6 => ?_
                  refine lyp Fu6 rfl HCC rfl (by omega) (wanted_none rfl) (v := Value.pointer (some ⟨bx, 1, none⟩)) (fun wr hwr => by simp only [execOp, (Fu6.eval 14 (by omega)).trans (show _ = Value.pointer (some ⟨bx, 0, none⟩) from by simp [upd, e12, e14, e17])]; simp [go_sem]) fun Fu7 => ?_
                  refine lyp Fu7 rfl HCC rfl (by omega) (wanted_none rfl) (v := Value.pointer (some ⟨bx, 1, none⟩)) (fun wr hwr => by simp only [execOp, (Fu7.eval 81 (by omega)).trans (show _ = Value.pointer (some ⟨bx, 1, none⟩) from by simp [upd, e12, e14, e17])]; simp [go_sem]) fun Fu8 => ?_
                  refine lyp Fu8 rfl HCC rfl (by omega) (wanted_none rfl) (v := Value.int .i64 o.s) (fun wr hwr => by simp only [execOp, (Fu8.eval 82 (by omega)).trans (show _ = Value.pointer (some ⟨bx, 1, none⟩) from by simp [upd, e12, e14, e17])]; simp [go_sem, hwr.2.2.2.1]) fun Fu9 => ?_
                  refine lyp Fu9 rfl HCC rfl (by omega) (wanted_none rfl) (v := Value.bool true) (fun wr hwr => by simp only [execOp, (Fu9.eval 80 (by omega)).trans (show _ = Value.int .i64 p.c.1 from by simp [upd, e12, e14, e17]), (Fu9.eval 83 (by omega)).trans (show _ = Value.int .i64 o.s from by simp [upd, e12, e14, e17])]; simp [go_sem, Act.eval, he1]) fun Fu10 => ?_
                  refine lyp Fu10 rfl HCC rfl (by omega) (wanted_none rfl) (v := Value.bool true) (fun wr hwr => by simp only [execOp, (Fu10.eval 84 (by omega)).trans (show _ = Value.bool true from by simp [upd, e12, e14, e17])]; first | rfl | simp [go_sem]) fun Fu11 => ?_
                  refine lyp Fu11 rfl HCC rfl (by omega) (want_yes Fu11 rfl (e := 85) rfl (by omega) (show _ = Value.bool true from by simp [upd, e12, e14, e17])) (v := Value.slice (some ⟨g, 0, none⟩) nl capv) (fun wr hwr => by simp only [execOp, (Fu11.eval 12 (by omega)).trans (show _ = Value.slice (some ⟨g, 0, none⟩) nl capv from by simp [upd, e12, e14, e17])]; first | rfl | simp [go_sem]) fun Fu12 => ?_
                  refine lyp Fu12 rfl HCC rfl (by omega) (want_yes Fu12 rfl (e := 85) rfl (by omega) (show _ = Value.bool true from by simp [upd, e12, e14, e17])) (v := Value.int .i64 ((j : Nat) : Int)) (fun wr hwr => by simp only [execOp, (Fu12.eval 17 (by omega)).trans (show _ = Value.int .i64 ((j : Nat) : Int) from by simp [upd, e12, e14, e17])]; first | rfl | simp [go_sem]) fun Fu13 => ?_
                  refine lyp Fu13 rfl HCC rfl (by omega) (want_yes Fu13 rfl (e := 85) rfl (by omega) (show _ = Value.bool true from by simp [upd, e12, e14, e17])) (v := Value.pointer (some ⟨g, j * 7, none⟩)) (fun wr hwr => by simp only [execOp, (Fu13.eval 86 (by omega)).trans (show _ = Value.slice (some ⟨g, 0, none⟩) nl capv from by simp [upd, e12, e14, e17]), (Fu13.eval 87 (by omega)).trans (show _ = Value.int .i64 ((j : Nat) : Int) from by simp [upd, e12, e14, e17])]; simp only [Sem.run_bind, Sem.run_pure, Result.andThen_ok, idx_run 30 38 7 Try.underlying30 isz38 wr g 0 nl capv j hjl, Nat.zero_add, Nat.mul_one]; try rfl) fun Fu14 => ?_
                  refine lyp Fu14 rfl HCC rfl (by omega) (want_yes Fu14 rfl (e := 85) rfl (by omega) (show _ = Value.bool true from by simp [upd, e12, e14, e17])) (v := Value.pointer (some ⟨g, j * 7, none⟩)) (fun wr hwr => by simp only [execOp, (Fu14.eval 88 (by omega)).trans (show _ = Value.pointer (some ⟨g, j * 7, none⟩) from by simp [upd, e12, e14, e17])]; simp [go_sem]) fun Fu15 => ?_
                  refine lyp Fu15 rfl HCC rfl (by omega) (want_yes Fu15 rfl (e := 85) rfl (by omega) (show _ = Value.bool true from by simp [upd, e12, e14, e17])) (v := Value.pointer (some ⟨g, j * 7 + 1, none⟩)) (fun wr hwr => by simp only [execOp, (Fu15.eval 89 (by omega)).trans (show _ = Value.pointer (some ⟨g, j * 7, none⟩) from by simp [upd, e12, e14, e17])]; simp [go_sem]) fun Fu16 => ?_
                  refine lyp Fu16 rfl HCC rfl (by omega) (want_yes Fu16 rfl (e := 85) rfl (by omega) (show _ = Value.bool true from by simp [upd, e12, e14, e17])) (v := Value.int .i64 p.c.2) (fun wr hwr => by simp only [execOp, (Fu16.eval 90 (by omega)).trans (show _ = Value.pointer (some ⟨g, j * 7 + 1, none⟩) from by simp [upd, e12, e14, e17])]; simp [go_sem, hwr.2.1]) fun Fu17 => ?_
                  refine lyp Fu17 rfl HCC rfl (by omega) (want_yes Fu17 rfl (e := 85) rfl (by omega) (show _ = Value.bool true from by simp [upd, e12, e14, e17])) (v := Value.pointer (some ⟨bx, 1, none⟩)) (fun wr hwr => by simp only [execOp, (Fu17.eval 14 (by omega)).trans (show _ = Value.pointer (some ⟨bx, 0, none⟩) from by simp [upd, e12, e14, e17])]; simp [go_sem]) fun Fu18 => ?_
                  refine lyp Fu18 rfl HCC rfl (by omega) (want_yes Fu18 rfl (e := 85) rfl (by omega) (show _ = Value.bool true from by simp [upd, e12, e14, e17])) (v := Value.pointer (some ⟨bx, 2, none⟩)) (fun wr hwr => by simp only [execOp, (Fu18.eval 92 (by omega)).trans (show _ = Value.pointer (some ⟨bx, 1, none⟩) from by simp [upd, e12, e14, e17])]; simp [go_sem]) fun Fu19 => ?_
                  refine lyp Fu19 rfl HCC rfl (by omega) (want_yes Fu19 rfl (e := 85) rfl (by omega) (show _ = Value.bool true from by simp [upd, e12, e14, e17])) (v := Value.int .i64 o.i) (fun wr hwr => by simp only [execOp, (Fu19.eval 93 (by omega)).trans (show _ = Value.pointer (some ⟨bx, 2, none⟩) from by simp [upd, e12, e14, e17])]; simp [go_sem, hwr.2.2.2.2]) fun Fu20 => ?_
                  refine lyp Fu20 rfl HCC rfl (by omega) (want_yes Fu20 rfl (e := 85) rfl (by omega) (show _ = Value.bool true from by simp [upd, e12, e14, e17])) (v := Value.bool true) (fun wr hwr => by simp only [execOp, (Fu20.eval 91 (by omega)).trans (show _ = Value.int .i64 p.c.2 from by simp [upd, e12, e14, e17]), (Fu20.eval 94 (by omega)).trans (show _ = Value.int .i64 o.i from by simp [upd, e12, e14, e17])]; simp [go_sem, Act.eval, he2]) fun Fu21 => ?_
                  refine lyp Fu21 rfl HCC rfl (by omega) (wanted_none rfl) (v := Value.bool true) (fun wr hwr => by simp only [execOp, (Fu21.eval 85 (by omega)).trans (show _ = Value.bool true from by simp [upd, e12, e14, e17]), (Fu21.eval 95 (by omega)).trans (show _ = Value.bool true from by simp [upd, e12, e14, e17])]; simp [go_sem, Act.eval]) fun Fu22 => ?_
                  refine lyp Fu22 rfl HCC rfl (by omega) (wanted_none rfl) (v := Value.bool true) (fun wr hwr => by simp only [execOp, (Fu22.eval 96 (by omega)).trans (show _ = Value.bool true from by simp [upd, e12, e14, e17])]; first | rfl | simp [go_sem]) fun Fu23 => ?_
                  refine lyp Fu23 rfl HCC rfl (by omega) (want_yes Fu23 rfl (e := 97) rfl (by omega) (show _ = Value.bool true from by simp [upd, e12, e14, e17])) (v := Value.slice (some ⟨g, 0, none⟩) nl capv) (fun wr hwr => by simp only [execOp, (Fu23.eval 12 (by omega)).trans (show _ = Value.slice (some ⟨g, 0, none⟩) nl capv from by simp [upd, e12, e14, e17])]; first | rfl | simp [go_sem]) fun Fu24 => ?_
                  refine lyp Fu24 rfl HCC rfl (by omega) (want_yes Fu24 rfl (e := 97) rfl (by omega) (show _ = Value.bool true from by simp [upd, e12, e14, e17])) (v := Value.int .i64 ((j : Nat) : Int)) (fun wr hwr => by simp only [execOp, (Fu24.eval 17 (by omega)).trans (show _ = Value.int .i64 ((j : Nat) : Int) from by simp [upd, e12, e14, e17])]; first | rfl | simp [go_sem]) fun Fu25 => ?_
                  refine lyp Fu25 rfl HCC rfl (by omega) (want_yes Fu25 rfl (e := 97) rfl (by omega) (show _ = Value.bool true from by simp [upd, e12, e14, e17])) (v := Value.pointer (some ⟨g, j * 7, none⟩)) (fun wr hwr => by simp only [execOp, (Fu25.eval 98 (by omega)).trans (show _ = Value.slice (some ⟨g, 0, none⟩) nl capv from by simp [upd, e12, e14, e17]), (Fu25.eval 99 (by omega)).trans (show _ = Value.int .i64 ((j : Nat) : Int) from by simp [upd, e12, e14, e17])]; simp only [Sem.run_bind, Sem.run_pure, Result.andThen_ok, idx_run 30 38 7 Try.underlying30 isz38 wr g 0 nl capv j hjl, Nat.zero_add, Nat.mul_one]; try rfl) fun Fu26 => ?_
                  refine lyp Fu26 rfl HCC rfl (by omega) (want_yes Fu26 rfl (e := 97) rfl (by omega) (show _ = Value.bool true from by simp [upd, e12, e14, e17])) (v := Value.pointer (some ⟨g, j * 7 + 2, none⟩)) (fun wr hwr => by simp only [execOp, (Fu26.eval 100 (by omega)).trans (show _ = Value.pointer (some ⟨g, j * 7, none⟩) from by simp [upd, e12, e14, e17])]; simp [go_sem]) fun Fu27 => ?_
                  refine lyp Fu27 rfl HCC rfl (by omega) (want_yes Fu27 rfl (e := 97) rfl (by omega) (show _ = Value.bool true from by simp [upd, e12, e14, e17])) (v := Value.int .i64 p.st) (fun wr hwr => by simp only [execOp, (Fu27.eval 101 (by omega)).trans (show _ = Value.pointer (some ⟨g, j * 7 + 2, none⟩) from by simp [upd, e12, e14, e17])]; simp [go_sem, hwr.2.2.1]) fun Fu28 => ?_
                  refine lyp Fu28 rfl HCC rfl (by omega) (want_yes Fu28 rfl (e := 97) rfl (by omega) (show _ = Value.bool true from by simp [upd, e12, e14, e17])) (v := Value.bool false) (fun wr hwr => by simp only [execOp, (Fu28.eval 102 (by omega)).trans (show _ = Value.int .i64 p.st from by simp [upd, e12, e14, e17])]; simp [go_sem, Act.eval, he3]) fun Fu29 => ?_
                  refine lyp Fu29 rfl HCC rfl (by omega) (wanted_none rfl) (v := Value.bool false) (fun wr hwr => by simp only [execOp, (Fu29.eval 97 (by omega)).trans (show _ = Value.bool true from by simp [upd, e12, e14, e17]), (Fu29.eval 103 (by omega)).trans (show _ = Value.bool false from by simp [upd, e12, e14, e17])]; simp [go_sem, Act.eval]) fun Fu30 => ?_
                  refine ⟨fun _ => HCC, ?_⟩
                  refine hK2 _ _ ?_
                  clear F0 Fu1 Fu2 Fu3 Fu4 Fu5 Fu6 Fu7 Fu8 Fu9 Fu10 Fu11 Fu12 Fu13 Fu14 Fu15 Fu16 Fu17 Fu18 Fu19 Fu20 Fu21 Fu22 Fu23 Fu24 Fu25 Fu26 Fu27 Fu28 Fu29 Fu30 e12 e14 e17 HCC q0 q1 q2 b1 b2
                  simp only [Act.put, List.setIfInBounds_toArray, List.set_cons_succ, List.set_cons_zero]
                  clear he1 he2 he3 HAB
                  go_wp2_with fail
                  go_roundw
                  case rel => exact ⟨j + 1, q + 2, by omega, by go_num, by rw [HLN.out], by rw [HB1.out], by rw [HWR.out]; rfl⟩
                  case measure => simp [intOf]; omega
              · have HAB : Hid (isAbv o.s o.i p = false) := show _ = _ from by unfold isAbv; exact decide_eq_false (fun hh => by obtain ⟨u1, u2, u3⟩ := hh; omega)
                have HB1 : Hid (abv o.s o.i (l.take (j + 1)) = bn) := show _ = _ from by rw [HBS.out, HAB.out, HBN.out]; simp
                rename_i K2 hK2
                try rw [show ∀ a : Act, a.put none undef = a from fun _ => rfl]
                refine wp_region_mix (fun wz => wz.cell? ⟨g, j * 7, none⟩ = some (.int .i64 p.c.1) ∧ wz.cell? ⟨g, j * 7 + 1, none⟩ = some (.int .i64 p.c.2) ∧ wz.cell? ⟨g, j * 7 + 2, none⟩ = some (.int .i64 p.st) ∧ wz.cell? ⟨bx, 1, none⟩ = some (.int .i64 o.s) ∧ wz.cell? ⟨bx, 2, none⟩ = some (.int .i64 o.i)) (fun i => i == 99) 99 (by kernel_rfl) rfl (by kernel_rfl) (by kernel_rfl) (by kernel_rfl) ?_
                refine withFrP (N := 265) rfl ?_
                intro f0 F0 hff
                have e12 : f0 12 = Value.slice (some ⟨g, 0, none⟩) nl capv := hff 12
                have e14 : f0 14 = Value.pointer (some ⟨bx, 0, none⟩) := hff 14
                have e17 : f0 17 = Value.int .i64 ((j : Nat) : Int) := hff 17
                clear hff
                have HCC : (fun wz => wz.cell? ⟨g, j * 7, none⟩ = some (.int .i64 p.c.1) ∧ wz.cell? ⟨g, j * 7 + 1, none⟩ = some (.int .i64 p.c.2) ∧ wz.cell? ⟨g, j * 7 + 2, none⟩ = some (.int .i64 p.st) ∧ wz.cell? ⟨bx, 1, none⟩ = some (.int .i64 o.s) ∧ wz.cell? ⟨bx, 2, none⟩ = some (.int .i64 o.i)) (({ ({ wr with drawn := wr.drawn + 1 } : World) with drawn := ({ wr with drawn := wr.drawn + 1 } : World).drawn + 1 } : World)) := ⟨q0, q1, q2, b1, b2⟩
                refine lyp F0 rfl HCC rfl (by omega) (wanted_none rfl) (v := Value.slice (some ⟨g, 0, none⟩) nl capv) (fun wr hwr => by simp only [execOp, (F0.eval 12 (by omega)).trans (show _ = Value.slice (some ⟨g, 0, none⟩) nl capv from by simp [upd, e12, e14, e17])]; first | rfl | simp [go_sem]) fun Fu1 => ?_
                refine lyp Fu1 rfl HCC rfl (by omega) (wanted_none rfl) (v := Value.int .i64 ((j : Nat) : Int)) (fun wr hwr => by simp only [execOp, (Fu1.eval 17 (by omega)).trans (show _ = Value.int .i64 ((j : Nat) : Int) from by simp [upd, e12, e14, e17])]; first | rfl | simp [go_sem]) fun Fu2 => ?_
                refine lyp Fu2 rfl HCC rfl (by omega) (wanted_none rfl) (v := Value.pointer (some ⟨g, j * 7, none⟩)) (fun wr hwr => by simp only [execOp, (Fu2.eval 75 (by omega)).trans (show _ = Value.slice (some ⟨g, 0, none⟩) nl capv from by simp [upd, e12, e14, e17]), (Fu2.eval 76 (by omega)).trans (show _ = Value.int .i64 ((j : Nat) : Int) from by simp [upd, e12, e14, e17])]; simp only [Sem.run_bind, Sem.run_pure, Result.andThen_ok, idx_run 30 38 7 Try.underlying30 isz38 wr g 0 nl capv j hjl, Nat.zero_add, Nat.mul_one]; try rfl) fun Fu3 => ?_
                refine lyp Fu3 rfl HCC rfl (by omega) (wanted_none rfl) (v := Value.pointer (some ⟨g, j * 7, none⟩)) (fun wr hwr => by simp only [execOp, (Fu3.eval 77 (by omega)).trans (show _ = Value.pointer (some ⟨g, j * 7, none⟩) from by simp [upd, e12, e14, e17])]; simp [go_sem]) fun Fu4 => ?_
                refine lyp Fu4 rfl HCC rfl (by omega) (wanted_none rfl) (v := Value.pointer (some ⟨g, j * 7, none⟩)) (fun wr hwr => by simp only [execOp, (Fu4.eval 78 (by omega)).trans (show _ = Value.pointer (some ⟨g, j * 7, none⟩) from by simp [upd, e12, e14, e17])]; simp [go_sem]) fun Fu5 => ?_
                refine lyp Fu5 rfl HCC rfl (by omega) (wanted_none rfl) (v := Value.int .i64 p.c.1) (fun wr hwr => by simp only [execOp, (Fu5.eval 79 (by omega)).trans (show _ = Value.pointer (some ⟨g, j * 7, none⟩) from by simp [upd, e12, e14, e17])]; simp [go_sem, hwr.1]) fun Fu6 => ?_
                refine lyp Fu6 rfl HCC rfl (by omega) (wanted_none rfl) (v := Value.pointer (some ⟨bx, 1, none⟩)) (fun wr hwr => by simp only [execOp, (Fu6.eval 14 (by omega)).trans (show _ = Value.pointer (some ⟨bx, 0, none⟩) from by simp [upd, e12, e14, e17])]; simp [go_sem]) fun Fu7 => ?_
                refine lyp Fu7 rfl HCC rfl (by omega) (wanted_none rfl) (v := Value.pointer (some ⟨bx, 1, none⟩)) (fun wr hwr => by simp only [execOp, (Fu7.eval 81 (by omega)).trans (show _ = Value.pointer (some ⟨bx, 1, none⟩) from by simp [upd, e12, e14, e17])]; simp [go_sem]) fun Fu8 => ?_
                refine lyp Fu8 rfl HCC rfl (by omega) (wanted_none rfl) (v := Value.int .i64 o.s) (fun wr hwr => by simp only [execOp, (Fu8.eval 82 (by omega)).trans (show _ = Value.pointer (some ⟨bx, 1, none⟩) from by simp [upd, e12, e14, e17])]; simp [go_sem, hwr.2.2.2.1]) fun Fu9 => ?_
                refine lyp Fu9 rfl HCC rfl (by omega) (wanted_none rfl) (v := Value.bool true) (fun wr hwr => by simp only [execOp, (Fu9.eval 80 (by omega)).trans (show _ = Value.int .i64 p.c.1 from by simp [upd, e12, e14, e17]), (Fu9.eval 83 (by omega)).trans (show _ = Value.int .i64 o.s from by simp [upd, e12, e14, e17])]; simp [go_sem, Act.eval, he1]) fun Fu10 => ?_
                refine lyp Fu10 rfl HCC rfl (by omega) (wanted_none rfl) (v := Value.bool true) (fun wr hwr => by simp only [execOp, (Fu10.eval 84 (by omega)).trans (show _ = Value.bool true from by simp [upd, e12, e14, e17])]; first | rfl | simp [go_sem]) fun Fu11 => ?_
                refine lyp Fu11 rfl HCC rfl (by omega) (want_yes Fu11 rfl (e := 85) rfl (by omega) (show _ = Value.bool true from by simp [upd, e12, e14, e17])) (v := Value.slice (some ⟨g, 0, none⟩) nl capv) (fun wr hwr => by simp only [execOp, (Fu11.eval 12 (by omega)).trans (show _ = Value.slice (some ⟨g, 0, none⟩) nl capv from by simp [upd, e12, e14, e17])]; first | rfl | simp [go_sem]) fun Fu12 => ?_
                refine lyp Fu12 rfl HCC rfl (by omega) (want_yes Fu12 rfl (e := 85) rfl (by omega) (show _ = Value.bool true from by simp [upd, e12, e14, e17])) (v := Value.int .i64 ((j : Nat) : Int)) (fun wr hwr => by simp only [execOp, (Fu12.eval 17 (by omega)).trans (show _ = Value.int .i64 ((j : Nat) : Int) from by simp [upd, e12, e14, e17])]; first | rfl | simp [go_sem]) fun Fu13 => ?_
                refine lyp Fu13 rfl HCC rfl (by omega) (want_yes Fu13 rfl (e := 85) rfl (by omega) (show _ = Value.bool true from by simp [upd, e12, e14, e17])) (v := Value.pointer (some ⟨g, j * 7, none⟩)) (fun wr hwr => by simp only [execOp, (Fu13.eval 86 (by omega)).trans (show _ = Value.slice (some ⟨g, 0, none⟩) nl capv from by simp [upd, e12, e14, e17]), (Fu13.eval 87 (by omega)).trans (show _ = Value.int .i64 ((j : Nat) : Int) from by simp [upd, e12, e14, e17])]; simp only [Sem.run_bind, Sem.run_pure, Result.andThen_ok, idx_run 30 38 7 Try.underlying30 isz38 wr g 0 nl capv j hjl, Nat.zero_add, Nat.mul_one]; try rfl) fun Fu14 => ?_
                refine lyp Fu14 rfl HCC rfl (by omega) (want_yes Fu14 rfl (e := 85) rfl (by omega) (show _ = Value.bool true from by simp [upd, e12, e14, e17])) (v := Value.pointer (some ⟨g, j * 7, none⟩)) (fun wr hwr => by simp only [execOp, (Fu14.eval 88 (by omega)).trans (show _ = Value.pointer (some ⟨g, j * 7, none⟩) from by simp [upd, e12, e14, e17])]; simp [go_sem]) fun Fu15 => ?_
                refine lyp Fu15 rfl HCC rfl (by omega) (want_yes Fu15 rfl (e := 85) rfl (by omega) (show _ = Value.bool true from by simp [upd, e12, e14, e17])) (v := Value.pointer (some ⟨g, j * 7 + 1, none⟩)) (fun wr hwr => by simp only [execOp, (Fu15.eval 89 (by omega)).trans (show _ = Value.pointer (some ⟨g, j * 7, none⟩) from by simp [upd, e12, e14, e17])]; simp [go_sem]) fun Fu16 => ?_
                refine lyp Fu16 rfl HCC rfl (by omega) (want_yes Fu16 rfl (e := 85) rfl (by omega) (show _ = Value.bool true from by simp [upd, e12, e14, e17])) (v := Value.int .i64 p.c.2) (fun wr hwr => by simp only [execOp, (Fu16.eval 90 (by omega)).trans (show _ = Value.pointer (some ⟨g, j * 7 + 1, none⟩) from by simp [upd, e12, e14, e17])]; simp [go_sem, hwr.2.1]) fun Fu17 => ?_
                refine lyp Fu17 rfl HCC rfl (by omega) (want_yes Fu17 rfl (e := 85) rfl (by omega) (show _ = Value.bool true from by simp [upd, e12, e14, e17])) (v := Value.pointer (some ⟨bx, 1, none⟩)) (fun wr hwr => by simp only [execOp, (Fu17.eval 14 (by omega)).trans (show _ = Value.pointer (some ⟨bx, 0, none⟩) from by simp [upd, e12, e14, e17])]; simp [go_sem]) fun Fu18 => ?_
                refine lyp Fu18 rfl HCC rfl (by omega) (want_yes Fu18 rfl (e := 85) rfl (by omega) (show _ = Value.bool true from by simp [upd, e12, e14, e17])) (v := Value.pointer (some ⟨bx, 2, none⟩)) (fun wr hwr => by simp only [execOp, (Fu18.eval 92 (by omega)).trans (show _ = Value.pointer (some ⟨bx, 1, none⟩) from by simp [upd, e12, e14, e17])]; simp [go_sem]) fun Fu19 => ?_
                refine lyp Fu19 rfl HCC rfl (by omega) (want_yes Fu19 rfl (e := 85) rfl (by omega) (show _ = Value.bool true from by simp [upd, e12, e14, e17])) (v := Value.int .i64 o.i) (fun wr hwr => by simp only [execOp, (Fu19.eval 93 (by omega)).trans (show _ = Value.pointer (some ⟨bx, 2, none⟩) from by simp [upd, e12, e14, e17])]; simp [go_sem, hwr.2.2.2.2]) fun Fu20 => ?_
                refine lyp Fu20 rfl HCC rfl (by omega) (want_yes Fu20 rfl (e := 85) rfl (by omega) (show _ = Value.bool true from by simp [upd, e12, e14, e17])) (v := Value.bool false) (fun wr hwr => by simp only [execOp, (Fu20.eval 91 (by omega)).trans (show _ = Value.int .i64 p.c.2 from by simp [upd, e12, e14, e17]), (Fu20.eval 94 (by omega)).trans (show _ = Value.int .i64 o.i from by simp [upd, e12, e14, e17])]; simp [go_sem, Act.eval, he2]) fun Fu21 => ?_
                refine lyp Fu21 rfl HCC rfl (by omega) (wanted_none rfl) (v := Value.bool false) (fun wr hwr => by simp only [execOp, (Fu21.eval 85 (by omega)).trans (show _ = Value.bool true from by simp [upd, e12, e14, e17]), (Fu21.eval 95 (by omega)).trans (show _ = Value.bool false from by simp [upd, e12, e14, e17])]; simp [go_sem, Act.eval]) fun Fu22 => ?_
                refine lyp Fu22 rfl HCC rfl (by omega) (wanted_none rfl) (v := Value.bool false) (fun wr hwr => by simp only [execOp, (Fu22.eval 96 (by omega)).trans (show _ = Value.bool false from by simp [upd, e12, e14, e17])]; first | rfl | simp [go_sem]) fun Fu23 => ?_
                refine lnp Fu23 rfl HCC rfl (by omega) (want_no Fu23 rfl (e := 97) rfl (by omega) (show _ = Value.bool false from by simp [upd, e12, e14, e17]) (by decide)) fun Fu24 => ?_
                refine lnp Fu24 rfl HCC rfl (by omega) (want_no Fu24 rfl (e := 97) rfl (by omega) (show _ = Value.bool false from by simp [upd, e12, e14, e17]) (by decide)) fun Fu25 => ?_
                refine lnp Fu25 rfl HCC rfl (by omega) (want_no Fu25 rfl (e := 97) rfl (by omega) (show _ = Value.bool false from by simp [upd, e12, e14, e17]) (by decide)) fun Fu26 => ?_
                refine lnp Fu26 rfl HCC rfl (by omega) (want_no Fu26 rfl (e := 97) rfl (by omega) (show _ = Value.bool false from by simp [upd, e12, e14, e17]) (by decide)) fun Fu27 => ?_
                refine lnp Fu27 rfl HCC rfl (by omega) (want_no Fu27 rfl (e := 97) rfl (by omega) (show _ = Value.bool false from by simp [upd, e12, e14, e17]) (by decide)) fun Fu28 => ?_
                refine lnp Fu28 rfl HCC rfl (by omega) (want_no Fu28 rfl (e := 97) rfl (by omega) (show _ = Value.bool false from by simp [upd, e12, e14, e17]) (by decide)) fun Fu29 => ?_
                refine lyp Fu29 rfl HCC rfl (by omega) (wanted_none rfl) (v := Value.bool false) (fun wr hwr => by simp only [execOp, (Fu29.eval 97 (by omega)).trans (show _ = Value.bool false from by simp [upd, e12, e14, e17])]; simp [go_sem, Act.eval]) fun Fu30 => ?_
                refine ⟨fun _ => HCC, ?_⟩
                refine hK2 _ _ ?_
                clear F0 Fu1 Fu2 Fu3 Fu4 Fu5 Fu6 Fu7 Fu8 Fu9 Fu10 Fu11 Fu12 Fu13 Fu14 Fu15 Fu16 Fu17 Fu18 Fu19 Fu20 Fu21 Fu22 Fu23 Fu24 Fu25 Fu26 Fu27 Fu28 Fu29 Fu30 e12 e14 e17 HCC q0 q1 q2 b1 b2
                simp only [Act.put, List.setIfInBounds_toArray, List.set_cons_succ, List.set_cons_zero]
                clear he1 he2 HAB
                go_wp2_with fail
                go_roundw
                case rel => exact ⟨j + 1, q + 2, by omega, by go_num, by rw [HLN.out], by rw [HB1.out], by rw [HWR.out]; rfl⟩
                case measure => simp [intOf]; omega
            · have HAB : Hid (isAbv o.s o.i p = false) := show _ = _ from by unfold isAbv; exact decide_eq_false (fun hh => by obtain ⟨u1, u2, u3⟩ := hh; omega)
              have HB1 : Hid (abv o.s o.i (l.take (j + 1)) = bn) := show _ = _ from by rw [HBS.out, HAB.out, HBN.out]; simp
              rename_i K2 hK2
              try rw [show ∀ a : Act, a.put none undef = a from fun _ => rfl]
              refine wp_region_mix (fun wz => wz.cell? ⟨g, j * 7, none⟩ = some (.int .i64 p.c.1) ∧ wz.cell? ⟨g, j * 7 + 1, none⟩ = some (.int .i64 p.c.2) ∧ wz.cell? ⟨g, j * 7 + 2, none⟩ = some (.int .i64 p.st) ∧ wz.cell? ⟨bx, 1, none⟩ = some (.int .i64 o.s) ∧ wz.cell? ⟨bx, 2, none⟩ = some (.int .i64 o.i)) (fun i => i == 99) 99 (by kernel_rfl) rfl (by kernel_rfl) (by kernel_rfl) (by kernel_rfl) ?_
              refine withFrP (N := 265) rfl ?_
              intro f0 F0 hff
              have e12 : f0 12 = Value.slice (some ⟨g, 0, none⟩) nl capv := hff 12
              have e14 : f0 14 = Value.pointer (some ⟨bx, 0, none⟩) := hff 14
              have e17 : f0 17 = Value.int .i64 ((j : Nat) : Int) := hff 17
              clear hff
              have HCC : (fun wz => wz.cell? ⟨g, j * 7, none⟩ = some (.int .i64 p.c.1) ∧ wz.cell? ⟨g, j * 7 + 1, none⟩ = some (.int .i64 p.c.2) ∧ wz.cell? ⟨g, j * 7 + 2, none⟩ = some (.int .i64 p.st) ∧ wz.cell? ⟨bx, 1, none⟩ = some (.int .i64 o.s) ∧ wz.cell? ⟨bx, 2, none⟩ = some (.int .i64 o.i)) (({ ({ wr with drawn := wr.drawn + 1 } : World) with drawn := ({ wr with drawn := wr.drawn + 1 } : World).drawn + 1 } : World)) := ⟨q0, q1, q2, b1, b2⟩
              refine lyp F0 rfl HCC rfl (by omega) (wanted_none rfl) (v := Value.slice (some ⟨g, 0, none⟩) nl capv) (fun wr hwr => by simp only [execOp, (F0.eval 12 (by omega)).trans (show _ = Value.slice (some ⟨g, 0, none⟩) nl capv from by simp [upd, e12, e14, e17])]; first | rfl | simp [go_sem]) fun Fu1 => ?_
              refine lyp Fu1 rfl HCC rfl (by omega) (wanted_none rfl) (v := Value.int .i64 ((j : Nat) : Int)) (fun wr hwr => by simp only [execOp, (Fu1.eval 17 (by omega)).trans (show _ = Value.int .i64 ((j : Nat) : Int) from by simp [upd, e12, e14, e17])]; first | rfl | simp [go_sem]) fun Fu2 => ?_
              refine lyp Fu2 rfl HCC rfl (by omega) (wanted_none rfl) (v := Value.pointer (some ⟨g, j * 7, none⟩)) (fun wr hwr => by simp only [execOp, (Fu2.eval 75 (by omega)).trans (show _ = Value.slice (some ⟨g, 0, none⟩) nl capv from by simp [upd, e12, e14, e17]), (Fu2.eval 76 (by omega)).trans (show _ = Value.int .i64 ((j : Nat) : Int) from by simp [upd, e12, e14, e17])]; simp only [Sem.run_bind, Sem.run_pure, Result.andThen_ok, idx_run 30 38 7 Try.underlying30 isz38 wr g 0 nl capv j hjl, Nat.zero_add, Nat.mul_one]; try rfl) fun Fu3 => ?_
              refine lyp Fu3 rfl HCC rfl (by omega) (wanted_none rfl) (v := Value.pointer (some ⟨g, j * 7, none⟩)) (fun wr hwr => by simp only [execOp, (Fu3.eval 77 (by omega)).trans (show _ = Value.pointer (some ⟨g, j * 7, none⟩) from by simp [upd, e12, e14, e17])]; simp [go_sem]) fun Fu4 => ?_
              refine lyp Fu4 rfl HCC rfl (by omega) (wanted_none rfl) (v := Value.pointer (some ⟨g, j * 7, none⟩)) (fun wr hwr => by simp only [execOp, (Fu4.eval 78 (by omega)).trans (show _ = Value.pointer (some ⟨g, j * 7, none⟩) from by simp [upd, e12, e14, e17])]; simp [go_sem]) fun Fu5 => ?_
              refine lyp Fu5 rfl HCC rfl (by omega) (wanted_none rfl) (v := Value.int .i64 p.c.1) (fun wr hwr => by simp only [execOp, (Fu5.eval 79 (by omega)).trans (show _ = Value.pointer (some ⟨g, j * 7, none⟩) from by simp [upd, e12, e14, e17])]; simp [go_sem, hwr.1]) fun Fu6 => ?_
              refine lyp Fu6 rfl HCC rfl (by omega) (wanted_none rfl) (v := Value.pointer (some ⟨bx, 1, none⟩)) (fun wr hwr => by simp only [execOp, (Fu6.eval 14 (by omega)).trans (show _ = Value.pointer (some ⟨bx, 0, none⟩) from by simp [upd, e12, e14, e17])]; simp [go_sem]) fun Fu7 => ?_
              refine lyp Fu7 rfl HCC rfl (by omega) (wanted_none rfl) (v := Value.pointer (some ⟨bx, 1, none⟩)) (fun wr hwr => by simp only [execOp, (Fu7.eval 81 (by omega)).trans (show _ = Value.pointer (some ⟨bx, 1, none⟩) from by simp [upd, e12, e14, e17])]; simp [go_sem]) fun Fu8 => ?_
              refine lyp Fu8 rfl HCC rfl (by omega) (wanted_none rfl) (v := Value.int .i64 o.s) (fun wr hwr => by simp only [execOp, (Fu8.eval 82 (by omega)).trans (show _ = Value.pointer (some ⟨bx, 1, none⟩) from by simp [upd, e12, e14, e17])]; simp [go_sem, hwr.2.2.2.1]) fun Fu9 => ?_
              refine lyp Fu9 rfl HCC rfl (by omega) (wanted_none rfl) (v := Value.bool false) (fun wr hwr => by simp only [execOp, (Fu9.eval 80 (by omega)).trans (show _ = Value.int .i64 p.c.1 from by simp [upd, e12, e14, e17]), (Fu9.eval 83 (by omega)).trans (show _ = Value.int .i64 o.s from by simp [upd, e12, e14, e17])]; simp [go_sem, Act.eval, he1]) fun Fu10 => ?_
              refine lyp Fu10 rfl HCC rfl (by omega) (wanted_none rfl) (v := Value.bool false) (fun wr hwr => by simp only [execOp, (Fu10.eval 84 (by omega)).trans (show _ = Value.bool false from by simp [upd, e12, e14, e17])]; first | rfl | simp [go_sem]) fun Fu11 => ?_
              refine lnp Fu11 rfl HCC rfl (by omega) (want_no Fu11 rfl (e := 85) rfl (by omega) (show _ = Value.bool false from by simp [upd, e12, e14, e17]) (by decide)) fun Fu12 => ?_
              refine lnp Fu12 rfl HCC rfl (by omega) (want_no Fu12 rfl (e := 85) rfl (by omega) (show _ = Value.bool false from by simp [upd, e12, e14, e17]) (by decide)) fun Fu13 => ?_
              refine lnp Fu13 rfl HCC rfl (by omega) (want_no Fu13 rfl (e := 85) rfl (by omega) (show _ = Value.bool false from by simp [upd, e12, e14, e17]) (by decide)) fun Fu14 => ?_
              refine lnp Fu14 rfl HCC rfl (by omega) (want_no Fu14 rfl (e := 85) rfl (by omega) (show _ = Value.bool false from by simp [upd, e12, e14, e17]) (by decide)) fun Fu15 => ?_
              refine lnp Fu15 rfl HCC rfl (by omega) (want_no Fu15 rfl (e := 85) rfl (by omega) (show _ = Value.bool false from by simp [upd, e12, e14, e17]) (by decide)) fun Fu16 => ?_
              refine lnp Fu16 rfl HCC rfl (by omega) (want_no Fu16 rfl (e := 85) rfl (by omega) (show _ = Value.bool false from by simp [upd, e12, e14, e17]) (by decide)) fun Fu17 => ?_
              refine lnp Fu17 rfl HCC rfl (by omega) (want_no Fu17 rfl (e := 85) rfl (by omega) (show _ = Value.bool false from by simp [upd, e12, e14, e17]) (by decide)) fun Fu18 => ?_
              refine lnp Fu18 rfl HCC rfl (by omega) (want_no Fu18 rfl (e := 85) rfl (by omega) (show _ = Value.bool false from by simp [upd, e12, e14, e17]) (by decide)) fun Fu19 => ?_
              refine lnp Fu19 rfl HCC rfl (by omega) (want_no Fu19 rfl (e := 85) rfl (by omega) (show _ = Value.bool false from by simp [upd, e12, e14, e17]) (by decide)) fun Fu20 => ?_
              refine lnp Fu20 rfl HCC rfl (by omega) (want_no Fu20 rfl (e := 85) rfl (by omega) (show _ = Value.bool false from by simp [upd, e12, e14, e17]) (by decide)) fun Fu21 => ?_
              refine lyp Fu21 rfl HCC rfl (by omega) (wanted_none rfl) (v := Value.bool false) (fun wr hwr => by simp only [execOp, (Fu21.eval 85 (by omega)).trans (show _ = Value.bool false from by simp [upd, e12, e14, e17])]; simp [go_sem, Act.eval]) fun Fu22 => ?_
              refine lyp Fu22 rfl HCC rfl (by omega) (wanted_none rfl) (v := Value.bool false) (fun wr hwr => by simp only [execOp, (Fu22.eval 96 (by omega)).trans (show _ = Value.bool false from by simp [upd, e12, e14, e17])]; first | rfl | simp [go_sem]) fun Fu23 => ?_
              refine lnp Fu23 rfl HCC rfl (by omega) (want_no Fu23 rfl (e := 97) rfl (by omega) (show _ = Value.bool false from by simp [upd, e12, e14, e17]) (by decide)) fun Fu24 => ?_
              refine lnp Fu24 rfl HCC rfl (by omega) (want_no Fu24 rfl (e := 97) rfl (by omega) (show _ = Value.bool false from by simp [upd, e12, e14, e17]) (by decide)) fun Fu25 => ?_
              refine lnp Fu25 rfl HCC rfl (by omega) (want_no Fu25 rfl (e := 97) rfl (by omega) (show _ = Value.bool false from by simp [upd, e12, e14, e17]) (by decide)) fun Fu26 => ?_
              refine lnp Fu26 rfl HCC rfl (by omega) (want_no Fu26 rfl (e := 97) rfl (by omega) (show _ = Value.bool false from by simp [upd, e12, e14, e17]) (by decide)) fun Fu27 => ?_
              refine lnp Fu27 rfl HCC rfl (by omega) (want_no Fu27 rfl (e := 97) rfl (by omega) (show _ = Value.bool false from by simp [upd, e12, e14, e17]) (by decide)) fun Fu28 => ?_
              refine lnp Fu28 rfl HCC rfl (by omega) (want_no Fu28 rfl (e := 97) rfl (by omega) (show _ = Value.bool false from by simp [upd, e12, e14, e17]) (by decide)) fun Fu29 => ?_
              refine lyp Fu29 rfl HCC rfl (by omega) (wanted_none rfl) (v := Value.bool false) (fun wr hwr => by simp only [execOp, (Fu29.eval 97 (by omega)).trans (show _ = Value.bool false from by simp [upd, e12, e14, e17])]; simp [go_sem, Act.eval]) fun Fu30 => ?_
              refine ⟨fun _ => HCC, ?_⟩
              refine hK2 _ _ ?_
              clear F0 Fu1 Fu2 Fu3 Fu4 Fu5 Fu6 Fu7 Fu8 Fu9 Fu10 Fu11 Fu12 Fu13 Fu14 Fu15 Fu16 Fu17 Fu18 Fu19 Fu20 Fu21 Fu22 Fu23 Fu24 Fu25 Fu26 Fu27 Fu28 Fu29 Fu30 e12 e14 e17 HCC q0 q1 q2 b1 b2
              simp only [Act.put, List.setIfInBounds_toArray, List.set_cons_succ, List.set_cons_zero]
              clear he1 HAB
              go_wp2_with fail
              go_roundw
              case rel => exact ⟨j + 1, q + 2, by omega, by go_num, by rw [HLN.out], by rw [HB1.out], by rw [HWR.out]; rfl⟩
              case measure => simp [intOf]; omega
        · obtain rfl : nl = j := by omega
          have HBL : Hid (abv o.s o.i l = bn) := show _ = _ from by rw [← HBN.out, List.take_of_length_le (by rw [← HNL.out]; exact Nat.le_refl _)]
          clear hjl hj HBN HX0
          by_cases hk2 : o.k = 2
          · by_cases hat : 0 ≤ ai
            · obtain ⟨i, p, hai, hpi, hpc⟩ := lastAt_yes (show 0 ≤ lastAt (o.s, o.i) l nl from by rw [← HAI.out]; exact hat)
              have HPI : Hid (l[i]? = some p) := hpi
              have HPC : Hid (p.c = (o.s, o.i)) := hpc
              have hai2 : ai = i := HAI.out.trans hai
              clear hpi hpc hai HAI
              subst hai2
              obtain ⟨g, hg⟩ : ∃ g, aov = some ⟨g, 0, none⟩ := by
                obtain ⟨_, _, e, _, _, h⟩ := own_read HXr.out.row
                cases e
                obtain ⟨g, e, _⟩ := h (by have := (List.getElem?_eq_some_iff.1 HPI.out).1; omega)
                exact ⟨g, e⟩
              subst hg
              have hil : i < nl := by have := (List.getElem?_eq_some_iff.1 HPI.out).1; have := HNL.out; omega
              by_cases hst : p.st = 1
              · as_aux_lemma =>
                  have HF : Hid (resE a (x.la o.s) (isIn (o.s, o.i) x.op) o.s o.i = 0) := (HR.out.ends o.s o.i).2 ⟨p, List.mem_of_getElem? HPI.out, HPC.out, hst⟩
                  obtain ⟨yb, hyb⟩ : ∃ yb, yb = wr.heap.size := ⟨_, rfl⟩
                  obtain ⟨Y, hY⟩ : ∃ Y, Y = wr.alloc (.cells #[.int .i64 o.s, .int .i64 o.i, .int .i64 o.e, .int .i64 o.v] 36) := ⟨_, rfl⟩
                  have HY0 : Hid (OnA w a x (.slice (some ⟨g, 0, none⟩) nl capv) l [boxE w.heap.size yb #[.int .i64 o.s, .int .i64 o.i, .int .i64 o.e, .int .i64 o.v] 36, boxE w.heap.size bx #[.int .i64 o.k, .int .i64 o.s, .int .i64 o.i, .int .i64 o.e, .int .i64 o.v] 34] Y) := show OnA w a x (.slice (some ⟨g, 0, none⟩) nl capv) l [boxE w.heap.size yb #[.int .i64 o.s, .int .i64 o.i, .int .i64 o.e, .int .i64 o.v] 36, boxE w.heap.size bx #[.int .i64 o.k, .int .i64 o.s, .int .i64 o.i, .int .i64 o.e, .int .i64 o.v] 34] Y from by rw [hY, hyb]; exact HXr.out.box _ _
                  have HEN : Hid _ := HY0.out.fini (s := o.s) (i := o.i) (e' := o.e) (v' := o.v) HOO.out.2.1 HF.out
                  go_upto_region 25 with fail
                  rw [← hY, ← hyb]
                  have hyB : Blk Y yb #[.int .i64 o.s, .int .i64 o.i, .int .i64 o.e, .int .i64 o.v] 36 := (HY0.out.get (e := boxE w.heap.size yb #[.int .i64 o.s, .int .i64 o.i, .int .i64 o.e, .int .i64 o.v] 36) (by simp)).1
                  have y0 : Y.cell? ⟨yb, 0, none⟩ = some (.int .i64 o.s) := hyB.cell 0
                  have y1 : Y.cell? ⟨yb, 1, none⟩ = some (.int .i64 o.i) := hyB.cell 1
                  have y2 : Y.cell? ⟨yb, 2, none⟩ = some (.int .i64 o.e) := hyB.cell 2
                  have y3 : Y.cell? ⟨yb, 3, none⟩ = some (.int .i64 o.v) := hyB.cell 3
                  clear hY hyb hyB HY0 HXr b0 b1 b2 b3 b4
                  go_wp2_with fail
                  refine Calls.mono HEN.out ?_
                  rintro e w6 ⟨rfl, x', h6, hxe⟩
                  have HXE : Hid (XEnd a x x' ⟨o.s, o.i, o.e, o.v⟩) := hxe
                  have H6 : Hid (OnA w a x' (.slice (some ⟨g, 0, none⟩) nl capv) l [boxE w.heap.size yb #[.int .i64 o.s, .int .i64 o.i, .int .i64 o.e, .int .i64 o.v] 36, boxE w.heap.size bx #[.int .i64 o.k, .int .i64 o.s, .int .i64 o.i, .int .i64 o.e, .int .i64 o.v] 34] w6) := h6
                  clear h6 hxe HEN y0 y1 y2 y3
                  have hrw : World.ownsRow w6 w.heap.size 38 7 (.slice (some ⟨g, 0, none⟩) nl capv) nl (flatP l) := by have := H6.out.row; rwa [← HNL.out] at this
                  have q2 : w6.cell? ⟨g, i * 7 + 2, none⟩ = some (.int .i64 p.st) := row_cell (t := 2) hrw HPI.out rfl
                  have hmx : max (i : Int) 0 = i := by omega
                  rw [hst] at q2
                  clear hrw
                  go_wp2_with fail
                  refine Calls.mono (num_any 0 w6) ?_
                  rintro e w7 ⟨rfl, hw7⟩
                  replace hw7 := hw7.symm
                  subst hw7
                  go_wp2_with fail
                  refine Calls.mono (num_any 0 w6) ?_
                  rintro e w7 ⟨rfl, hw7⟩
                  replace hw7 := hw7.symm
                  subst hw7
                  have hsp := split_at1 HPI.out
                  obtain ⟨A, hA⟩ : ∃ A, A = l.take i := ⟨_, rfl⟩
                  obtain ⟨Bl, hBl⟩ : ∃ Bl, Bl = l.drop (i + 1) := ⟨_, rfl⟩
                  rw [← hA, ← hBl] at hsp
                  have hAl : i = A.length := by rw [hA, List.length_take]; have := HNL.out; omega
                  have hrw : World.ownsRow w6 w.heap.size 38 7 (.slice (some ⟨g, 0, none⟩) nl capv) nl (flatP (A ++ p :: Bl)) := by have := H6.out.row; rwa [← HNL.out, hsp] at this
                  obtain ⟨hw1, hw2⟩ := row_write hrw hAl ⟨o.s, o.i, o.e, o.v⟩
                  obtain ⟨r2, hR2⟩ := OnR.fin (A := A) (B := Bl) (p := p) (hsp ▸ HR.out) HCK.out (y := ⟨o.s, o.i, o.e, o.v⟩) HPC.out hst HXE.out
                  have hl2 : (A ++ (⟨p.c, 2, ⟨o.s, o.i, o.e, o.v⟩⟩ : Ps) :: Bl).length = nl := by rw [HNL.out, hsp]; simp
                  have hV2 : OnA w a x' (.slice (some ⟨g, 0, none⟩) nl capv) (A ++ (⟨p.c, 2, ⟨o.s, o.i, o.e, o.v⟩⟩ : Ps) :: Bl) [boxE w.heap.size yb #[.int .i64 o.s, .int .i64 o.i, .int .i64 o.e, .int .i64 o.v] 36, boxE w.heap.size bx #[.int .i64 o.k, .int .i64 o.s, .int .i64 o.i, .int .i64 o.e, .int .i64 o.v] 34] _ := H6.out.list (by rw [hl2]; exact hw1) hw2 (fun k hk => Or.inl hk)
                  have HVV : Hid _ := hV2.drop
                  have HR2 : Hid _ := hR2
                  have HL2 : Hid _ := hl2
                  have fz2 : w6.frozen? ⟨g, i * 7 + 2, none⟩ = false := World.ownsRow.frozenAt hrw _
                  obtain ⟨V1, hV1⟩ : ∃ V1 : World, V1 = w6.setCell ⟨g, i * 7 + 2, none⟩ (.int .i64 2) := ⟨_, rfl⟩
                  obtain ⟨hs1, gs1⟩ := World.ownsRow.stored hrw (i * 7 + 2) (.int .i64 2)
                  rw [← hV1] at hs1
                  have fz3 : V1.frozen? ⟨g, i * 7 + 3, none⟩ = false := World.ownsRow.frozenAt hs1 _
                  have fz4 : V1.frozen? ⟨g, i * 7 + 3 + 1, none⟩ = false := World.ownsRow.frozenAt hs1 _
                  have fz5 : V1.frozen? ⟨g, i * 7 + 3 + 2, none⟩ = false := World.ownsRow.frozenAt hs1 _
                  have fz6 : V1.frozen? ⟨g, i * 7 + 3 + 3, none⟩ = false := World.ownsRow.frozenAt hs1 _
                  have hln : (flatP (A ++ p :: Bl)).length = 7 * nl := by rw [flatP_len, ← hsp, ← HNL.out]
                  have cc : ∀ t, t < 4 → ∃ u, V1.cell? ⟨g, i * 7 + 3 + t, none⟩ = some u := fun t ht => by
                    have e0 := World.ownsRow.cellAt hs1 (i * 7 + 3 + t) (by omega)
                    exact ⟨_, e0.trans (List.getElem?_eq_getElem (by rw [List.length_set, hln]; omega))⟩
                  obtain ⟨u3, c3⟩ := cc 0 (by omega)
                  obtain ⟨u4, c4⟩ := cc 1 (by omega)
                  obtain ⟨u5, c5⟩ := cc 2 (by omega)
                  obtain ⟨u6, c6⟩ := cc 3 (by omega)
                  rw [Nat.add_zero] at c3
                  have hyV : Blk V1 yb #[.int .i64 o.s, .int .i64 o.i, .int .i64 o.e, .int .i64 o.v] 36 := by
                    rw [hV1]
                    have h1 : Blk w6 yb #[.int .i64 o.s, .int .i64 o.i, .int .i64 o.e, .int .i64 o.v] 36 := (H6.out.get (e := boxE w.heap.size yb #[.int .i64 o.s, .int .i64 o.i, .int .i64 o.e, .int .i64 o.v] 36) (by simp)).1
                    refine (setCell_chg w6 g (i * 7 + 2) (.int .i64 2)).blk h1 (fun e => ?_)
                    have hdj := H6.out.h.dj
                    have := (List.pairwise_cons.1 (List.pairwise_cons.1 hdj).2).1 (boxE w.heap.size yb #[.int .i64 o.s, .int .i64 o.i, .int .i64 o.e, .int .i64 o.v] 36) (by simp) g rfl
                    exact this e.symm
                  have y0 : V1.cell? ⟨yb, 0, none⟩ = some (.int .i64 o.s) := hyV.cell 0
                  have y1 : V1.cell? ⟨yb, 1, none⟩ = some (.int .i64 o.i) := hyV.cell 1
                  have y2 : V1.cell? ⟨yb, 2, none⟩ = some (.int .i64 o.e) := hyV.cell 2
                  have y3 : V1.cell? ⟨yb, 3, none⟩ = some (.int .i64 o.v) := hyV.cell 3
                  rw [← hV1] at HVV
                  clear hyV cc hln hs1 gs1 hw1 hw2 hR2 hl2 hV2 hA hBl hrw hsp hAl
                  go_upto_region 30 with fail
                  rw [← hV1]
                  clear hV1 fz2 q2
                  go_wp2_with fail
                  go_roundw
                  case rel => exact ⟨k + 1, _, _, x', r2, rfl, by omega, by go_num, by rw [HL2.out]; omega, HR2.out, HVV.out⟩
                  case measure => simp [intOf]; omega
              · as_aux_lemma =>
                  obtain ⟨f, hf⟩ : ∃ f, f = resE a (x.la o.s) (isIn (o.s, o.i) x.op) o.s o.i := ⟨_, rfl⟩
                  have hf0 : ¬ f = 0 := fun e => by
                    rw [hf] at e
                    obtain ⟨p', hp, q1, q2⟩ := (HR.out.ends o.s o.i).1 e
                    have := HR.out.uniq hp (List.mem_of_getElem? HPI.out) (q1.trans HPC.out.symm)
                    rw [this] at q2
                    exact hst q2
                  have HF : Hid (resE a (x.la o.s) (isIn (o.s, o.i) x.op) o.s o.i = f) := hf.symm
                  clear hf
                  obtain ⟨yb, hyb⟩ : ∃ yb, yb = wr.heap.size := ⟨_, rfl⟩
                  obtain ⟨Y, hY⟩ : ∃ Y, Y = wr.alloc (.cells #[.int .i64 o.s, .int .i64 o.i, .int .i64 o.e, .int .i64 o.v] 36) := ⟨_, rfl⟩
                  have HY0 : Hid (OnA w a x (.slice (some ⟨g, 0, none⟩) nl capv) l [boxE w.heap.size yb #[.int .i64 o.s, .int .i64 o.i, .int .i64 o.e, .int .i64 o.v] 36, boxE w.heap.size bx #[.int .i64 o.k, .int .i64 o.s, .int .i64 o.i, .int .i64 o.e, .int .i64 o.v] 34] Y) := show OnA w a x (.slice (some ⟨g, 0, none⟩) nl capv) l [boxE w.heap.size yb #[.int .i64 o.s, .int .i64 o.i, .int .i64 o.e, .int .i64 o.v] 36, boxE w.heap.size bx #[.int .i64 o.k, .int .i64 o.s, .int .i64 o.i, .int .i64 o.e, .int .i64 o.v] 34] Y from by rw [hY, hyb]; exact HXr.out.box _ _
                  have HEN : Hid _ := HY0.out.fini (s := o.s) (i := o.i) (e' := o.e) (v' := o.v) HOO.out.2.1 HF.out
                  go_upto_region 25 with fail
                  rw [← hY, ← hyb]
                  have hyB : Blk Y yb #[.int .i64 o.s, .int .i64 o.i, .int .i64 o.e, .int .i64 o.v] 36 := (HY0.out.get (e := boxE w.heap.size yb #[.int .i64 o.s, .int .i64 o.i, .int .i64 o.e, .int .i64 o.v] 36) (by simp)).1
                  have y0 : Y.cell? ⟨yb, 0, none⟩ = some (.int .i64 o.s) := hyB.cell 0
                  have y1 : Y.cell? ⟨yb, 1, none⟩ = some (.int .i64 o.i) := hyB.cell 1
                  have y2 : Y.cell? ⟨yb, 2, none⟩ = some (.int .i64 o.e) := hyB.cell 2
                  have y3 : Y.cell? ⟨yb, 3, none⟩ = some (.int .i64 o.v) := hyB.cell 3
                  clear hY hyb hyB HY0 HXr b0 b1 b2 b3 b4
                  go_wp2_with fail
                  refine Calls.mono HEN.out ?_
                  rintro e w6 ⟨rfl, x', h6, hxe⟩
                  have HXE : Hid (XEnd a x x' ⟨o.s, o.i, o.e, o.v⟩) := hxe
                  have H6 : Hid (OnA w a x' (.slice (some ⟨g, 0, none⟩) nl capv) l [boxE w.heap.size yb #[.int .i64 o.s, .int .i64 o.i, .int .i64 o.e, .int .i64 o.v] 36, boxE w.heap.size bx #[.int .i64 o.k, .int .i64 o.s, .int .i64 o.i, .int .i64 o.e, .int .i64 o.v] 34] w6) := h6
                  clear h6 hxe HEN y0 y1 y2 y3
                  have hrw : World.ownsRow w6 w.heap.size 38 7 (.slice (some ⟨g, 0, none⟩) nl capv) nl (flatP l) := by have := H6.out.row; rwa [← HNL.out] at this
                  have q2 : w6.cell? ⟨g, i * 7 + 2, none⟩ = some (.int .i64 p.st) := row_cell (t := 2) hrw HPI.out rfl
                  have hmx : max (i : Int) 0 = i := by omega
                  have hst2 : p.st = 2 := by rcases HR.out.st p (List.mem_of_getElem? HPI.out) with h | ⟨h, _⟩; exact absurd h hst; exact h
                  rw [hst2] at q2
                  clear hrw
                  go_wp2_with fail
                  refine Calls.mono (num_any f w6) ?_
                  rintro e w7 ⟨rfl, hw7⟩
                  replace hw7 := hw7.symm
                  subst hw7
                  go_wp2_with fail
                  refine Calls.mono (num_any f w6) ?_
                  rintro e w7 ⟨rfl, hw7⟩
                  replace hw7 := hw7.symm
                  subst hw7
                  have HFI : Hid (OnA w a x (.slice (some ⟨g, 0, none⟩) nl capv) l [] w6) := show OnA w a x (.slice (some ⟨g, 0, none⟩) nl capv) l [] w6 from by
                    have := H6.out.drop
                    rwa [HXE.out.no (by simp only; rw [HF.out]; exact hf0)] at this
                  clear H6
                  go_wp2_with fail
                  go_roundw
                  case rel => exact ⟨k + 1, _, l, x, r, rfl, by omega, by go_num, by have := HNL.out; omega, HR.out, HFI.out⟩
                  case measure => simp [intOf]; omega
            · obtain ⟨hm1, hno⟩ := lastAt_no (show lastAt (o.s, o.i) l nl < 0 from by rw [← HAI.out]; omega)
              have HNO : Hid (∀ p ∈ l, p.c ≠ (o.s, o.i)) := fun p hp => by
                obtain ⟨i, hi⟩ := List.getElem?_of_mem hp
                exact hno i p (by have := (List.getElem?_eq_some_iff.1 hi).1; have := HNL.out; omega) hi
              have hai2 : ai = -1 := HAI.out.trans hm1
              clear hm1 hno HAI
              as_aux_lemma =>
                obtain ⟨f, hf⟩ : ∃ f, f = resE a (x.la o.s) (isIn (o.s, o.i) x.op) o.s o.i := ⟨_, rfl⟩
                have hf0 : ¬ f = 0 := fun e => by
                  rw [hf] at e
                  obtain ⟨p, hp, q1, q2⟩ := (HR.out.ends o.s o.i).1 e
                  exact HNO.out p hp q1
                have HF : Hid (resE a (x.la o.s) (isIn (o.s, o.i) x.op) o.s o.i = f) := hf.symm
                clear hf
                obtain ⟨yb, hyb⟩ : ∃ yb, yb = wr.heap.size := ⟨_, rfl⟩
                obtain ⟨Y, hY⟩ : ∃ Y, Y = wr.alloc (.cells #[.int .i64 o.s, .int .i64 o.i, .int .i64 o.e, .int .i64 o.v] 36) := ⟨_, rfl⟩
                have HY0 : Hid (OnA w a x (.slice aov nl capv) l [boxE w.heap.size yb #[.int .i64 o.s, .int .i64 o.i, .int .i64 o.e, .int .i64 o.v] 36, boxE w.heap.size bx #[.int .i64 o.k, .int .i64 o.s, .int .i64 o.i, .int .i64 o.e, .int .i64 o.v] 34] Y) := show OnA w a x (.slice aov nl capv) l [boxE w.heap.size yb #[.int .i64 o.s, .int .i64 o.i, .int .i64 o.e, .int .i64 o.v] 36, boxE w.heap.size bx #[.int .i64 o.k, .int .i64 o.s, .int .i64 o.i, .int .i64 o.e, .int .i64 o.v] 34] Y from by rw [hY, hyb]; exact HXr.out.box _ _
                have HEN : Hid _ := HY0.out.fini (s := o.s) (i := o.i) (e' := o.e) (v' := o.v) HOO.out.2.1 HF.out
                go_upto_region 25 with fail
                rw [← hY, ← hyb]
                have hyB : Blk Y yb #[.int .i64 o.s, .int .i64 o.i, .int .i64 o.e, .int .i64 o.v] 36 := (HY0.out.get (e := boxE w.heap.size yb #[.int .i64 o.s, .int .i64 o.i, .int .i64 o.e, .int .i64 o.v] 36) (by simp)).1
                have y0 : Y.cell? ⟨yb, 0, none⟩ = some (.int .i64 o.s) := hyB.cell 0
                have y1 : Y.cell? ⟨yb, 1, none⟩ = some (.int .i64 o.i) := hyB.cell 1
                have y2 : Y.cell? ⟨yb, 2, none⟩ = some (.int .i64 o.e) := hyB.cell 2
                have y3 : Y.cell? ⟨yb, 3, none⟩ = some (.int .i64 o.v) := hyB.cell 3
                clear hY hyb hyB HY0 HXr b0 b1 b2 b3 b4
                go_wp2_with fail
                refine Calls.mono HEN.out ?_
                rintro e w6 ⟨rfl, x', h6, hxe⟩
                have HXE : Hid (XEnd a x x' ⟨o.s, o.i, o.e, o.v⟩) := hxe
                have H6 : Hid (OnA w a x' (.slice aov nl capv) l [boxE w.heap.size yb #[.int .i64 o.s, .int .i64 o.i, .int .i64 o.e, .int .i64 o.v] 36, boxE w.heap.size bx #[.int .i64 o.k, .int .i64 o.s, .int .i64 o.i, .int .i64 o.e, .int .i64 o.v] 34] w6) := h6
                clear h6 hxe HEN y0 y1 y2 y3
                go_wp2_with fail
                refine Calls.mono (num_any f w6) ?_
                rintro e w7 ⟨rfl, hw7⟩
                replace hw7 := hw7.symm
                subst hw7
                go_wp2_with fail
                refine Calls.mono (num_any f w6) ?_
                rintro e w7 ⟨rfl, hw7⟩
                replace hw7 := hw7.symm
                subst hw7
                have HFI : Hid (OnA w a x (.slice aov nl capv) l [] w6) := show OnA w a x (.slice aov nl capv) l [] w6 from by
                  have := H6.out.drop
                  rwa [HXE.out.no (by simp only; rw [HF.out]; exact hf0)] at this
                clear H6
                go_wp2_with fail
                go_roundw
                case rel => exact ⟨k + 1, _, l, x, r, rfl, by omega, by go_num, by have := HNL.out; omega, HR.out, HFI.out⟩
                case measure => simp [intOf]; omega
          · by_cases hat : 0 ≤ ai
            · obtain ⟨i, p, hai, hpi, hpc⟩ := lastAt_yes (show 0 ≤ lastAt (o.s, o.i) l nl from by rw [← HAI.out]; exact hat)
              have HPI : Hid (l[i]? = some p) := hpi
              have HPC : Hid (p.c = (o.s, o.i)) := hpc
              have hai2 : ai = i := HAI.out.trans hai
              clear hpi hpc hai HAI
              subst hai2
              obtain ⟨g, hg⟩ : ∃ g, aov = some ⟨g, 0, none⟩ := by
                obtain ⟨_, _, e, _, _, h⟩ := own_read HXr.out.row
                cases e
                obtain ⟨g, e, _⟩ := h (by have := (List.getElem?_eq_some_iff.1 HPI.out).1; omega)
                exact ⟨g, e⟩
              subst hg
              have hil : i < nl := by have := (List.getElem?_eq_some_iff.1 HPI.out).1; have := HNL.out; omega
              by_cases hst : p.st = 1
              · as_aux_lemma =>
                  have hkn := HR.out.known (by rw [HA3.out.2.2.2]; exact hp1) (List.mem_of_getElem? HPI.out)
                  have HBL2 : Hid (abv p.c.1 p.c.2 l = bn) := show _ = _ from by rw [HPC.out]; exact HBL.out
                  rw [if_pos hst, HPC.out] at hkn
                  have HRB : Hid (resB a (x.la o.s) (isIn (o.s, o.i) x.op) (rfind o.i (x.rg o.s)) o.s o.i = (zrp, false, 133)) := hkn.2
                  have HX1 : Hid (begX a x o.s o.i = x) := hkn.1
                  clear hkn
                  have HBG : Hid _ := HXr.out.beg HR.out (s := o.s) (i := o.i) HOO.out.2.1 HRB.out HX1.out
                  have HXB : Hid (Blk wr bx #[.int .i64 o.k, .int .i64 o.s, .int .i64 o.i, .int .i64 o.e, .int .i64 o.v] 34) := (HXr.out.get (e := boxE w.heap.size bx #[.int .i64 o.k, .int .i64 o.s, .int .i64 o.i, .int .i64 o.e, .int .i64 o.v] 34) (by simp)).1
                  clear b0 b3 b4
                  have b0 : wr.cell? ⟨bx, 0, none⟩ = some (.int .i64 o.k) := HXB.out.cell 0
                  go_wp2_with fail
                  refine Calls.mono HBG.out ?_
                  rintro e w6 ⟨rfl, h6⟩
                  obtain ⟨yb, hyb⟩ : ∃ yb, yb = w6.heap.size := ⟨_, rfl⟩
                  obtain ⟨Y, hY⟩ : ∃ Y, Y = w6.alloc (.cells #[.int .i64 0, .int .i64 0, .int .i64 0, .int .i64 0] 36) := ⟨_, rfl⟩
                  have HY0 : Hid (OnA w a x (.slice (some ⟨g, 0, none⟩) nl capv) l [boxE w.heap.size yb #[.int .i64 0, .int .i64 0, .int .i64 0, .int .i64 0] 36, boxE w.heap.size bx #[.int .i64 o.k, .int .i64 o.s, .int .i64 o.i, .int .i64 o.e, .int .i64 o.v] 34] Y) := show OnA w a x (.slice (some ⟨g, 0, none⟩) nl capv) l [boxE w.heap.size yb #[.int .i64 0, .int .i64 0, .int .i64 0, .int .i64 0] 36, boxE w.heap.size bx #[.int .i64 o.k, .int .i64 o.s, .int .i64 o.i, .int .i64 o.e, .int .i64 o.v] 34] Y from by rw [hY, hyb]; exact h6.box _ _
                  clear h6 HBG HXB b0 b1 b2 HXr
                  simp only [zrp]
                  go_upto_region 34 with fail
                  rw [← hY, ← hyb]
                  clear hY hyb
                  have hyB : Blk Y yb #[.int .i64 0, .int .i64 0, .int .i64 0, .int .i64 0] 36 := (HY0.out.get (e := boxE w.heap.size yb #[.int .i64 0, .int .i64 0, .int .i64 0, .int .i64 0] 36) (by simp)).1
                  have hxB : Blk Y bx #[.int .i64 o.k, .int .i64 o.s, .int .i64 o.i, .int .i64 o.e, .int .i64 o.v] 34 := (HY0.out.get (e := boxE w.heap.size bx #[.int .i64 o.k, .int .i64 o.s, .int .i64 o.i, .int .i64 o.e, .int .i64 o.v] 34) (by simp)).1
                  have y0 : Y.cell? ⟨yb, 0, none⟩ = some (.int .i64 0) := hyB.cell 0
                  have y1 : Y.cell? ⟨yb, 1, none⟩ = some (.int .i64 0) := hyB.cell 1
                  have y2 : Y.cell? ⟨yb, 2, none⟩ = some (.int .i64 0) := hyB.cell 2
                  have y3 : Y.cell? ⟨yb, 3, none⟩ = some (.int .i64 0) := hyB.cell 3
                  have b1 : Y.cell? ⟨bx, 1, none⟩ = some (.int .i64 o.s) := hxB.cell 1
                  have b2 : Y.cell? ⟨bx, 2, none⟩ = some (.int .i64 o.i) := hxB.cell 2
                  clear hyB hxB
                  have hrw : World.ownsRow Y w.heap.size 38 7 (.slice (some ⟨g, 0, none⟩) nl capv) nl (flatP l) := by have := HY0.out.row; rwa [← HNL.out] at this
                  have q2 : Y.cell? ⟨g, i * 7 + 2, none⟩ = some (.int .i64 p.st) := row_cell (t := 2) hrw HPI.out rfl
                  have q3 : Y.cell? ⟨g, i * 7 + 3, none⟩ = some (.int .i64 p.y.s) := row_cell (t := 3) hrw HPI.out rfl
                  have q4 : Y.cell? ⟨g, i * 7 + 4, none⟩ = some (.int .i64 p.y.i) := row_cell (t := 4) hrw HPI.out rfl
                  have q5 : Y.cell? ⟨g, i * 7 + 5, none⟩ = some (.int .i64 p.y.e) := row_cell (t := 5) hrw HPI.out rfl
                  have q6 : Y.cell? ⟨g, i * 7 + 6, none⟩ = some (.int .i64 p.y.v) := row_cell (t := 6) hrw HPI.out rfl
                  rw [hst] at q2
                  clear hrw
                  go_wp2_with fail
                  refine Calls.mono (num_any 133 Y) ?_
                  rintro e w7 ⟨rfl, hw7⟩
                  replace hw7 := hw7.symm
                  subst hw7
                  go_wp2_with fail
                  have HFI : Hid (OnA w a x (.slice (some ⟨g, 0, none⟩) nl capv) l [] Y) := HY0.out.drop
                  clear HY0
                  go_roundw
                  case rel => exact ⟨k + 1, _, l, x, r, rfl, by omega, by go_num, by have := HNL.out; omega, HR.out, HFI.out⟩
                  case measure => simp [intOf]; omega
              · by_cases hab : bn < rm
                · have hkn := HR.out.known (by rw [HA3.out.2.2.2]; exact hp1) (List.mem_of_getElem? HPI.out)
                  have HBL2 : Hid (abv p.c.1 p.c.2 l = bn) := show _ = _ from by rw [HPC.out]; exact HBL.out
                  rw [if_neg hst, if_pos (by rw [HBL2.out, HA3.out.2.2.2]; exact hab), HPC.out] at hkn
                  have HRB : Hid (resB a (x.la o.s) (isIn (o.s, o.i) x.op) (rfind o.i (x.rg o.s)) o.s o.i = (p.y, true, 0)) := hkn.2
                  have HX1 : Hid (begX a x o.s o.i = x) := hkn.1
                  clear hkn
                  have HBG : Hid _ := HXr.out.beg HR.out (s := o.s) (i := o.i) HOO.out.2.1 HRB.out HX1.out
                  have HXB : Hid (Blk wr bx #[.int .i64 o.k, .int .i64 o.s, .int .i64 o.i, .int .i64 o.e, .int .i64 o.v] 34) := (HXr.out.get (e := boxE w.heap.size bx #[.int .i64 o.k, .int .i64 o.s, .int .i64 o.i, .int .i64 o.e, .int .i64 o.v] 34) (by simp)).1
                  clear b0 b3 b4
                  have b0 : wr.cell? ⟨bx, 0, none⟩ = some (.int .i64 o.k) := HXB.out.cell 0
                  go_wp2_with fail
                  refine Calls.mono HBG.out ?_
                  rintro e w6 ⟨rfl, h6⟩
                  obtain ⟨yb, hyb⟩ : ∃ yb, yb = w6.heap.size := ⟨_, rfl⟩
                  obtain ⟨Y, hY⟩ : ∃ Y, Y = w6.alloc (.cells #[.int .i64 p.y.s, .int .i64 p.y.i, .int .i64 p.y.e, .int .i64 p.y.v] 36) := ⟨_, rfl⟩
                  have HY0 : Hid (OnA w a x (.slice (some ⟨g, 0, none⟩) nl capv) l [boxE w.heap.size yb #[.int .i64 p.y.s, .int .i64 p.y.i, .int .i64 p.y.e, .int .i64 p.y.v] 36, boxE w.heap.size bx #[.int .i64 o.k, .int .i64 o.s, .int .i64 o.i, .int .i64 o.e, .int .i64 o.v] 34] Y) := show OnA w a x (.slice (some ⟨g, 0, none⟩) nl capv) l [boxE w.heap.size yb #[.int .i64 p.y.s, .int .i64 p.y.i, .int .i64 p.y.e, .int .i64 p.y.v] 36, boxE w.heap.size bx #[.int .i64 o.k, .int .i64 o.s, .int .i64 o.i, .int .i64 o.e, .int .i64 o.v] 34] Y from by rw [hY, hyb]; exact h6.box _ _
                  clear h6 HBG HXB b0 b1 b2 HXr

                  go_upto_region 34 with fail
                  rw [← hY, ← hyb]
                  clear hY hyb
                  have hyB : Blk Y yb #[.int .i64 p.y.s, .int .i64 p.y.i, .int .i64 p.y.e, .int .i64 p.y.v] 36 := (HY0.out.get (e := boxE w.heap.size yb #[.int .i64 p.y.s, .int .i64 p.y.i, .int .i64 p.y.e, .int .i64 p.y.v] 36) (by simp)).1
                  have hxB : Blk Y bx #[.int .i64 o.k, .int .i64 o.s, .int .i64 o.i, .int .i64 o.e, .int .i64 o.v] 34 := (HY0.out.get (e := boxE w.heap.size bx #[.int .i64 o.k, .int .i64 o.s, .int .i64 o.i, .int .i64 o.e, .int .i64 o.v] 34) (by simp)).1
                  have y0 : Y.cell? ⟨yb, 0, none⟩ = some (.int .i64 p.y.s) := hyB.cell 0
                  have y1 : Y.cell? ⟨yb, 1, none⟩ = some (.int .i64 p.y.i) := hyB.cell 1
                  have y2 : Y.cell? ⟨yb, 2, none⟩ = some (.int .i64 p.y.e) := hyB.cell 2
                  have y3 : Y.cell? ⟨yb, 3, none⟩ = some (.int .i64 p.y.v) := hyB.cell 3
                  have b1 : Y.cell? ⟨bx, 1, none⟩ = some (.int .i64 o.s) := hxB.cell 1
                  have b2 : Y.cell? ⟨bx, 2, none⟩ = some (.int .i64 o.i) := hxB.cell 2
                  clear hyB hxB
                  have hrw : World.ownsRow Y w.heap.size 38 7 (.slice (some ⟨g, 0, none⟩) nl capv) nl (flatP l) := by have := HY0.out.row; rwa [← HNL.out] at this
                  have q2 : Y.cell? ⟨g, i * 7 + 2, none⟩ = some (.int .i64 p.st) := row_cell (t := 2) hrw HPI.out rfl
                  have q3 : Y.cell? ⟨g, i * 7 + 3, none⟩ = some (.int .i64 p.y.s) := row_cell (t := 3) hrw HPI.out rfl
                  have q4 : Y.cell? ⟨g, i * 7 + 4, none⟩ = some (.int .i64 p.y.i) := row_cell (t := 4) hrw HPI.out rfl
                  have q5 : Y.cell? ⟨g, i * 7 + 5, none⟩ = some (.int .i64 p.y.e) := row_cell (t := 5) hrw HPI.out rfl
                  have q6 : Y.cell? ⟨g, i * 7 + 6, none⟩ = some (.int .i64 p.y.v) := row_cell (t := 6) hrw HPI.out rfl
                  have hst2 : p.st = 2 := by rcases HR.out.st p (List.mem_of_getElem? HPI.out) with h | ⟨h, _⟩; exact absurd h hst; exact h
                  rw [hst2] at q2
                  clear hrw
                  have habi : ((bn : Nat) : Int) < (rm : Nat) := by omega
                  go_wp2_with fail
                  rename_i K hK hz9
                  try rw [show ∀ a : Act, a.put none undef = a from fun _ => rfl]
                  refine wp_region_mix (fun wz => wz.cell? ⟨yb, 0, none⟩ = some (.int .i64 p.y.s) ∧ wz.cell? ⟨yb, 1, none⟩ = some (.int .i64 p.y.i) ∧ wz.cell? ⟨yb, 2, none⟩ = some (.int .i64 p.y.e) ∧ wz.cell? ⟨yb, 3, none⟩ = some (.int .i64 p.y.v) ∧ wz.cell? ⟨g, i * 7 + 3, none⟩ = some (.int .i64 p.y.s) ∧ wz.cell? ⟨g, i * 7 + 4, none⟩ = some (.int .i64 p.y.i) ∧ wz.cell? ⟨g, i * 7 + 5, none⟩ = some (.int .i64 p.y.e) ∧ wz.cell? ⟨g, i * 7 + 6, none⟩ = some (.int .i64 p.y.v)) (fun i => i == 4 || i == 99) 99 (by kernel_rfl) rfl (by kernel_rfl) (by kernel_rfl) (by kernel_rfl) ?_
                  refine withFrP (N := 265) rfl ?_
                  intro f0 F0 hff
                  have e12 : f0 12 = Value.slice (some ⟨g, 0, none⟩) nl capv := hff 12
                  have e15 : f0 15 = Value.int .i64 ((i : Nat) : Int) := hff 15
                  have e20 : f0 20 = Value.pointer (some ⟨yb, 0, none⟩) := hff 20
                  have e21 : f0 21 = Value.bool true := hff 21
                  have e22 : f0 22 = Value.int .i64 0 := hff 22
                  clear hff
                  have HCC : (fun wz => wz.cell? ⟨yb, 0, none⟩ = some (.int .i64 p.y.s) ∧ wz.cell? ⟨yb, 1, none⟩ = some (.int .i64 p.y.i) ∧ wz.cell? ⟨yb, 2, none⟩ = some (.int .i64 p.y.e) ∧ wz.cell? ⟨yb, 3, none⟩ = some (.int .i64 p.y.v) ∧ wz.cell? ⟨g, i * 7 + 3, none⟩ = some (.int .i64 p.y.s) ∧ wz.cell? ⟨g, i * 7 + 4, none⟩ = some (.int .i64 p.y.i) ∧ wz.cell? ⟨g, i * 7 + 5, none⟩ = some (.int .i64 p.y.e) ∧ wz.cell? ⟨g, i * 7 + 6, none⟩ = some (.int .i64 p.y.v)) (({ Y with drawn := Y.drawn + 1 } : World)) := ⟨y0, y1, y2, y3, q3, q4, q5, q6⟩
                  refine lyp F0 rfl HCC rfl (by omega) (wanted_none rfl) (v := Value.bool true) (fun wr hwr => by simp only [execOp, (F0.eval 21 (by omega)).trans (show _ = Value.bool true from by simp [upd, e12, e15, e20, e21, e22])]; first | rfl | simp [go_sem]) fun Fv1 => ?_
                  refine lyp Fv1 rfl HCC rfl (by omega) (wanted_none rfl) (v := Value.bool false) (fun wr hwr => by simp only [execOp, (Fv1.eval 249 (by omega)).trans (show _ = Value.bool true from by simp [upd, e12, e15, e20, e21, e22])]; simp [go_sem, Act.eval]) fun Fv2 => ?_
                  refine lyp Fv2 rfl HCC rfl (by omega) (wanted_none rfl) (v := Value.bool false) (fun wr hwr => by simp only [execOp, (Fv2.eval 250 (by omega)).trans (show _ = Value.bool false from by simp [upd, e12, e15, e20, e21, e22])]; first | rfl | simp [go_sem]) fun Fv3 => ?_
                  refine lyp Fv3 rfl HCC rfl (by omega) (want_yes Fv3 rfl (e := 251) rfl (by omega) (show _ = Value.bool false from by simp [upd, e12, e15, e20, e21, e22])) (v := Value.int .i64 0) (fun wr hwr => by simp only [execOp, (Fv3.eval 22 (by omega)).trans (show _ = Value.int .i64 0 from by simp [upd, e12, e15, e20, e21, e22])]; first | rfl | simp [go_sem]) fun Fv4 => ?_
                  refine lcp Fv4 rfl HCC rfl (by omega) (want_yes Fv4 rfl (e := 251) rfl (by omega) (show _ = Value.bool false from by simp [upd, e12, e15, e20, e21, e22])) (g := 11) (args := #[Value.int .i64 0]) (by simp only [execOp, resolve, invoke, List.map_toArray, List.map_cons, List.map_nil, (Fv4.eval 252 (by omega)).trans (show _ = Value.int .i64 0 from by simp [upd, e12, e15, e20, e21, e22])]; simp [go_sem, Act.eval]) (num_any 0 _) ?_
                  rintro e v3 ⟨rfl, rfl⟩
                  refine ⟨_, rfl, fun Fv5 => ?_⟩
                  refine lyp Fv5 rfl HCC rfl (by omega) (want_yes Fv5 rfl (e := 251) rfl (by omega) (show _ = Value.bool false from by simp [upd, e12, e15, e20, e21, e22])) (v := Value.bool false) (fun wr hwr => by simp only [execOp, (Fv5.eval 253 (by omega)).trans (show _ = Value.int .i64 0 from by simp [upd, e12, e15, e20, e21, e22])]; simp [go_sem, Act.eval]) fun Fv6 => ?_
                  refine lyp Fv6 rfl HCC rfl (by omega) (wanted_none rfl) (v := Value.bool false) (fun wr hwr => by simp only [execOp, (Fv6.eval 251 (by omega)).trans (show _ = Value.bool false from by simp [upd, e12, e15, e20, e21, e22]), (Fv6.eval 254 (by omega)).trans (show _ = Value.bool false from by simp [upd, e12, e15, e20, e21, e22])]; simp [go_sem, Act.eval]) fun Fv7 => ?_
                  refine lyp Fv7 rfl HCC rfl (by omega) (wanted_none rfl) (v := Value.bool false) (fun wr hwr => by simp only [execOp, (Fv7.eval 255 (by omega)).trans (show _ = Value.bool false from by simp [upd, e12, e15, e20, e21, e22])]; first | rfl | simp [go_sem]) fun Fv8 => ?_
                  refine lyp Fv8 rfl HCC rfl (by omega) (want_yes Fv8 rfl (e := 256) rfl (by omega) (show _ = Value.bool false from by simp [upd, e12, e15, e20, e21, e22])) (v := Value.agg #[.int .i64 p.y.s, .int .i64 p.y.i, .int .i64 p.y.e, .int .i64 p.y.v]) (fun wr hwr => by simp only [execOp, (Fv8.eval 20 (by omega)).trans (show _ = Value.pointer (some ⟨yb, 0, none⟩) from by simp [upd, e12, e15, e20, e21, e22])]; simp [go_sem, hwr.1, hwr.2.1, hwr.2.2.1, hwr.2.2.2.1]) fun Fv9 => ?_
                  refine lyp Fv9 rfl HCC rfl (by omega) (want_yes Fv9 rfl (e := 256) rfl (by omega) (show _ = Value.bool false from by simp [upd, e12, e15, e20, e21, e22])) (v := Value.slice (some ⟨g, 0, none⟩) nl capv) (fun wr hwr => by simp only [execOp, (Fv9.eval 12 (by omega)).trans (show _ = Value.slice (some ⟨g, 0, none⟩) nl capv from by simp [upd, e12, e15, e20, e21, e22])]; first | rfl | simp [go_sem]) fun Fv10 => ?_
                  refine lyp Fv10 rfl HCC rfl (by omega) (want_yes Fv10 rfl (e := 256) rfl (by omega) (show _ = Value.bool false from by simp [upd, e12, e15, e20, e21, e22])) (v := Value.int .i64 ((i : Nat) : Int)) (fun wr hwr => by simp only [execOp, (Fv10.eval 15 (by omega)).trans (show _ = Value.int .i64 ((i : Nat) : Int) from by simp [upd, e12, e15, e20, e21, e22])]; first | rfl | simp [go_sem]) fun Fv11 => ?_
                  refine lyp Fv11 rfl HCC rfl (by omega) (want_yes Fv11 rfl (e := 256) rfl (by omega) (show _ = Value.bool false from by simp [upd, e12, e15, e20, e21, e22])) (v := Value.pointer (some ⟨g, i * 7, none⟩)) (fun wr hwr => by simp only [execOp, (Fv11.eval 258 (by omega)).trans (show _ = Value.slice (some ⟨g, 0, none⟩) nl capv from by simp [upd, e12, e15, e20, e21, e22]), (Fv11.eval 259 (by omega)).trans (show _ = Value.int .i64 ((i : Nat) : Int) from by simp [upd, e12, e15, e20, e21, e22])]; simp only [Sem.run_bind, Sem.run_pure, Result.andThen_ok, idx_run 30 38 7 Try.underlying30 isz38 wr g 0 nl capv i hil, Nat.zero_add, Nat.mul_one]; try rfl) fun Fv12 => ?_
                  refine lyp Fv12 rfl HCC rfl (by omega) (want_yes Fv12 rfl (e := 256) rfl (by omega) (show _ = Value.bool false from by simp [upd, e12, e15, e20, e21, e22])) (v := Value.pointer (some ⟨g, i * 7 + 3, none⟩)) (fun wr hwr => by simp only [execOp, (Fv12.eval 260 (by omega)).trans (show _ = Value.pointer (some ⟨g, i * 7, none⟩) from by simp [upd, e12, e15, e20, e21, e22])]; simp [go_sem]) fun Fv13 => ?_
                  refine lyp Fv13 rfl HCC rfl (by omega) (want_yes Fv13 rfl (e := 256) rfl (by omega) (show _ = Value.bool false from by simp [upd, e12, e15, e20, e21, e22])) (v := Value.agg #[.int .i64 p.y.s, .int .i64 p.y.i, .int .i64 p.y.e, .int .i64 p.y.v]) (fun wr hwr => by simp only [execOp, (Fv13.eval 261 (by omega)).trans (show _ = Value.pointer (some ⟨g, i * 7 + 3, none⟩) from by simp [upd, e12, e15, e20, e21, e22])]; simp [go_sem, hwr.2.2.2.2.1, hwr.2.2.2.2.2.1, hwr.2.2.2.2.2.2.1, hwr.2.2.2.2.2.2.2]) fun Fv14 => ?_
                  refine lyp Fv14 rfl HCC rfl (by omega) (want_yes Fv14 rfl (e := 256) rfl (by omega) (show _ = Value.bool false from by simp [upd, e12, e15, e20, e21, e22])) (v := Value.bool false) (fun wr hwr => by simp only [execOp, (Fv14.eval 257 (by omega)).trans (show _ = Value.agg #[.int .i64 p.y.s, .int .i64 p.y.i, .int .i64 p.y.e, .int .i64 p.y.v] from by simp [upd, e12, e15, e20, e21, e22]), (Fv14.eval 262 (by omega)).trans (show _ = Value.agg #[.int .i64 p.y.s, .int .i64 p.y.i, .int .i64 p.y.e, .int .i64 p.y.v] from by simp [upd, e12, e15, e20, e21, e22])]; simp [go_sem, Act.eval]) fun Fv15 => ?_
                  refine lyp Fv15 rfl HCC rfl (by omega) (wanted_none rfl) (v := Value.bool false) (fun wr hwr => by simp only [execOp, (Fv15.eval 256 (by omega)).trans (show _ = Value.bool false from by simp [upd, e12, e15, e20, e21, e22]), (Fv15.eval 263 (by omega)).trans (show _ = Value.bool false from by simp [upd, e12, e15, e20, e21, e22])]; simp [go_sem, Act.eval]) fun Fv16 => ?_
                  refine ⟨fun _ => HCC, ?_⟩
                  refine hK _ _ ?_
                  clear F0 Fv1 Fv2 Fv3 Fv4 Fv5 Fv6 Fv7 Fv8 Fv9 Fv10 Fv11 Fv12 Fv13 Fv14 Fv15 Fv16 e12 e15 e20 e21 e22 HCC
                  simp only [Act.put, List.setIfInBounds_toArray, List.set_cons_succ, List.set_cons_zero]
                  clear y0 y1 y2 y3 q2 q3 q4 q5 q6 b1 b2
                  go_wp2_with fail
                  have HFI : Hid (OnA w a x (.slice (some ⟨g, 0, none⟩) nl capv) l [] ({ Y with drawn := Y.drawn + 1 } : World)) := (HY0.out.more (Below.drew (Below.refl _ _))).drop
                  clear HY0
                  go_roundw
                  case rel => exact ⟨k + 1, _, l, x, r, rfl, by omega, by go_num, by have := HNL.out; omega, HR.out, HFI.out⟩
                  case measure => simp [intOf]; omega
                · as_aux_lemma =>
                    have hkn := HR.out.known (by rw [HA3.out.2.2.2]; exact hp1) (List.mem_of_getElem? HPI.out)
                    have HBL2 : Hid (abv p.c.1 p.c.2 l = bn) := show _ = _ from by rw [HPC.out]; exact HBL.out
                    rw [if_neg hst, if_neg (by rw [HBL2.out, HA3.out.2.2.2]; exact hab), HPC.out] at hkn
                    have HRB : Hid (resB a (x.la o.s) (isIn (o.s, o.i) x.op) (rfind o.i (x.rg o.s)) o.s o.i = (zrp, false, 130)) := hkn.2
                    have HX1 : Hid (begX a x o.s o.i = x) := hkn.1
                    clear hkn
                    have HBG : Hid _ := HXr.out.beg HR.out (s := o.s) (i := o.i) HOO.out.2.1 HRB.out HX1.out
                    have HXB : Hid (Blk wr bx #[.int .i64 o.k, .int .i64 o.s, .int .i64 o.i, .int .i64 o.e, .int .i64 o.v] 34) := (HXr.out.get (e := boxE w.heap.size bx #[.int .i64 o.k, .int .i64 o.s, .int .i64 o.i, .int .i64 o.e, .int .i64 o.v] 34) (by simp)).1
                    clear b0 b3 b4
                    have b0 : wr.cell? ⟨bx, 0, none⟩ = some (.int .i64 o.k) := HXB.out.cell 0
                    go_wp2_with fail
                    refine Calls.mono HBG.out ?_
                    rintro e w6 ⟨rfl, h6⟩
                    obtain ⟨yb, hyb⟩ : ∃ yb, yb = w6.heap.size := ⟨_, rfl⟩
                    obtain ⟨Y, hY⟩ : ∃ Y, Y = w6.alloc (.cells #[.int .i64 0, .int .i64 0, .int .i64 0, .int .i64 0] 36) := ⟨_, rfl⟩
                    have HY0 : Hid (OnA w a x (.slice (some ⟨g, 0, none⟩) nl capv) l [boxE w.heap.size yb #[.int .i64 0, .int .i64 0, .int .i64 0, .int .i64 0] 36, boxE w.heap.size bx #[.int .i64 o.k, .int .i64 o.s, .int .i64 o.i, .int .i64 o.e, .int .i64 o.v] 34] Y) := show OnA w a x (.slice (some ⟨g, 0, none⟩) nl capv) l [boxE w.heap.size yb #[.int .i64 0, .int .i64 0, .int .i64 0, .int .i64 0] 36, boxE w.heap.size bx #[.int .i64 o.k, .int .i64 o.s, .int .i64 o.i, .int .i64 o.e, .int .i64 o.v] 34] Y from by rw [hY, hyb]; exact h6.box _ _
                    clear h6 HBG HXB b0 b1 b2 HXr
                    simp only [zrp]
                    go_upto_region 34 with fail
                    rw [← hY, ← hyb]
                    clear hY hyb
                    have hyB : Blk Y yb #[.int .i64 0, .int .i64 0, .int .i64 0, .int .i64 0] 36 := (HY0.out.get (e := boxE w.heap.size yb #[.int .i64 0, .int .i64 0, .int .i64 0, .int .i64 0] 36) (by simp)).1
                    have hxB : Blk Y bx #[.int .i64 o.k, .int .i64 o.s, .int .i64 o.i, .int .i64 o.e, .int .i64 o.v] 34 := (HY0.out.get (e := boxE w.heap.size bx #[.int .i64 o.k, .int .i64 o.s, .int .i64 o.i, .int .i64 o.e, .int .i64 o.v] 34) (by simp)).1
                    have y0 : Y.cell? ⟨yb, 0, none⟩ = some (.int .i64 0) := hyB.cell 0
                    have y1 : Y.cell? ⟨yb, 1, none⟩ = some (.int .i64 0) := hyB.cell 1
                    have y2 : Y.cell? ⟨yb, 2, none⟩ = some (.int .i64 0) := hyB.cell 2
                    have y3 : Y.cell? ⟨yb, 3, none⟩ = some (.int .i64 0) := hyB.cell 3
                    have b1 : Y.cell? ⟨bx, 1, none⟩ = some (.int .i64 o.s) := hxB.cell 1
                    have b2 : Y.cell? ⟨bx, 2, none⟩ = some (.int .i64 o.i) := hxB.cell 2
                    clear hyB hxB
                    have hrw : World.ownsRow Y w.heap.size 38 7 (.slice (some ⟨g, 0, none⟩) nl capv) nl (flatP l) := by have := HY0.out.row; rwa [← HNL.out] at this
                    have q2 : Y.cell? ⟨g, i * 7 + 2, none⟩ = some (.int .i64 p.st) := row_cell (t := 2) hrw HPI.out rfl
                    have q3 : Y.cell? ⟨g, i * 7 + 3, none⟩ = some (.int .i64 p.y.s) := row_cell (t := 3) hrw HPI.out rfl
                    have q4 : Y.cell? ⟨g, i * 7 + 4, none⟩ = some (.int .i64 p.y.i) := row_cell (t := 4) hrw HPI.out rfl
                    have q5 : Y.cell? ⟨g, i * 7 + 5, none⟩ = some (.int .i64 p.y.e) := row_cell (t := 5) hrw HPI.out rfl
                    have q6 : Y.cell? ⟨g, i * 7 + 6, none⟩ = some (.int .i64 p.y.v) := row_cell (t := 6) hrw HPI.out rfl
                    have hst2 : p.st = 2 := by rcases HR.out.st p (List.mem_of_getElem? HPI.out) with h | ⟨h, _⟩; exact absurd h hst; exact h
                    rw [hst2] at q2
                    clear hrw
                    have habi : ¬ ((bn : Nat) : Int) < (rm : Nat) := by omega
                    go_wp2_with fail
                    refine Calls.mono (num_any 130 Y) ?_
                    rintro e w7 ⟨rfl, hw7⟩
                    replace hw7 := hw7.symm
                    subst hw7
                    go_wp2_with fail
                    have HFI : Hid (OnA w a x (.slice (some ⟨g, 0, none⟩) nl capv) l [] Y) := HY0.out.drop
                    clear HY0
                    go_roundw
                    case rel => exact ⟨k + 1, _, l, x, r, rfl, by omega, by go_num, by have := HNL.out; omega, HR.out, HFI.out⟩
                    case measure => simp [intOf]; omega
            · obtain ⟨hm1, hno⟩ := lastAt_no (show lastAt (o.s, o.i) l nl < 0 from by rw [← HAI.out]; omega)
              have HNO : Hid (∀ p ∈ l, p.c ≠ (o.s, o.i)) := fun p hp => by
                obtain ⟨i, hi⟩ := List.getElem?_of_mem hp
                exact hno i p (by have := (List.getElem?_eq_some_iff.1 hi).1; have := HNL.out; omega) hi
              have hai2 : ai = -1 := HAI.out.trans hm1
              clear hm1 hno HAI
              by_cases hnew : isNew a (x.la o.s) o.s o.i
              · have HRB : Hid (resB a (x.la o.s) (isIn (o.s, o.i) x.op) (rfind o.i (x.rg o.s)) o.s o.i = (zrp, false, 0)) := HR.out.isnew hnew
                have HX1 : Hid (begX a x o.s o.i = begX a x o.s o.i) := rfl
                have HBG : Hid _ := HXr.out.beg HR.out (s := o.s) (i := o.i) HOO.out.2.1 HRB.out HX1.out
                have HXB : Hid (Blk wr bx #[.int .i64 o.k, .int .i64 o.s, .int .i64 o.i, .int .i64 o.e, .int .i64 o.v] 34) := (HXr.out.get (e := boxE w.heap.size bx #[.int .i64 o.k, .int .i64 o.s, .int .i64 o.i, .int .i64 o.e, .int .i64 o.v] 34) (by simp)).1
                clear b0 b3 b4
                have b0 : wr.cell? ⟨bx, 0, none⟩ = some (.int .i64 o.k) := HXB.out.cell 0
                go_wp2_with fail
                refine Calls.mono HBG.out ?_
                rintro e w6 ⟨rfl, h6⟩
                obtain ⟨yb, hyb⟩ : ∃ yb, yb = w6.heap.size := ⟨_, rfl⟩
                obtain ⟨Y, hY⟩ : ∃ Y, Y = w6.alloc (.cells #[.int .i64 0, .int .i64 0, .int .i64 0, .int .i64 0] 36) := ⟨_, rfl⟩
                have HY0 : Hid (OnA w a (begX a x o.s o.i) (.slice aov nl capv) l [boxE w.heap.size yb #[.int .i64 0, .int .i64 0, .int .i64 0, .int .i64 0] 36, boxE w.heap.size bx #[.int .i64 o.k, .int .i64 o.s, .int .i64 o.i, .int .i64 o.e, .int .i64 o.v] 34] Y) := show OnA w a (begX a x o.s o.i) (.slice aov nl capv) l [boxE w.heap.size yb #[.int .i64 0, .int .i64 0, .int .i64 0, .int .i64 0] 36, boxE w.heap.size bx #[.int .i64 o.k, .int .i64 o.s, .int .i64 o.i, .int .i64 o.e, .int .i64 o.v] 34] Y from by rw [hY, hyb]; exact h6.box _ _
                clear h6 HBG HXB b0 b1 b2 HXr
                simp only [zrp]
                go_upto_region 34 with fail
                rw [← hY, ← hyb]
                clear hY hyb
                have hyB : Blk Y yb #[.int .i64 0, .int .i64 0, .int .i64 0, .int .i64 0] 36 := (HY0.out.get (e := boxE w.heap.size yb #[.int .i64 0, .int .i64 0, .int .i64 0, .int .i64 0] 36) (by simp)).1
                have hxB : Blk Y bx #[.int .i64 o.k, .int .i64 o.s, .int .i64 o.i, .int .i64 o.e, .int .i64 o.v] 34 := (HY0.out.get (e := boxE w.heap.size bx #[.int .i64 o.k, .int .i64 o.s, .int .i64 o.i, .int .i64 o.e, .int .i64 o.v] 34) (by simp)).1
                have y0 : Y.cell? ⟨yb, 0, none⟩ = some (.int .i64 0) := hyB.cell 0
                have y1 : Y.cell? ⟨yb, 1, none⟩ = some (.int .i64 0) := hyB.cell 1
                have y2 : Y.cell? ⟨yb, 2, none⟩ = some (.int .i64 0) := hyB.cell 2
                have y3 : Y.cell? ⟨yb, 3, none⟩ = some (.int .i64 0) := hyB.cell 3
                have b1 : Y.cell? ⟨bx, 1, none⟩ = some (.int .i64 o.s) := hxB.cell 1
                have b2 : Y.cell? ⟨bx, 2, none⟩ = some (.int .i64 o.i) := hxB.cell 2
                clear hyB hxB
                obtain ⟨hm1, hi1, hi2, hi3⟩ := hnew
                have hm2 := hm1
                rw [HA3.out.1, HA3.out.2.1, HA3.out.2.2.1] at hm2
                obtain ⟨hm3, hm4, hm5⟩ := hm2
                have hoi : ¬ o.i < 1 := by omega
                have hos : ¬ o.s < 0 := by omega
                have hon : ¬ n ≤ o.s := by omega
                obtain ⟨r2, hR2⟩ := HR.out.push HNO.out ⟨hm1, hi1, hi2, hi3⟩
                have HR2 : Hid _ := hR2
                have hal : Below Y.heap.size Y (Y.alloc (.cells #[.int .i64 o.s, .int .i64 o.i, .int .i64 1, .int .i64 0, .int .i64 0, .int .i64 0, .int .i64 0] 38)) := (Below.refl _ _).alloc (Nat.le_refl _) _
                have hA1 := HY0.out.more hal
                have hrw : World.ownsRow (Y.alloc (.cells #[.int .i64 o.s, .int .i64 o.i, .int .i64 1, .int .i64 0, .int .i64 0, .int .i64 0, .int .i64 0] 38)) w.heap.size 38 7 (.slice aov nl capv) nl (flatP l) := by have := hA1.row; rwa [← HNL.out] at this
                obtain ⟨v7, w8, hrun7, ho7, hg7⟩ := app_rows (w := Y.alloc (.cells #[.int .i64 o.s, .int .i64 o.i, .int .i64 1, .int .i64 0, .int .i64 0, .int .i64 0, .int .i64 0] 38)) 30 38 (.agg #[.int .i64 0, .int .i64 0, .int .i64 0, .int .i64 0, .int .i64 0, .int .i64 0, .int .i64 0]) 7 56 Try.underlying30 info38 rfl (by decide) (by decide) hrw (ao := some ⟨Y.heap.size, 0, none⟩) (m := 1) (cap := 1) (ys := Ps.row ⟨(o.s, o.i), 1, zrp⟩) rfl (fun h => by cases h) (fun ad had jj u hu => by
                  cases had
                  have hB : Blk (Y.alloc (.cells #[.int .i64 o.s, .int .i64 o.i, .int .i64 1, .int .i64 0, .int .i64 0, .int .i64 0, .int .i64 0] 38)) Y.heap.size #[.int .i64 o.s, .int .i64 o.i, .int .i64 1, .int .i64 0, .int .i64 0, .int .i64 0, .int .i64 0] 38 := heap_alloc_new Y _
                  rw [addr_add, Nat.zero_add, hB.cell jj]
                  simpa [Ps.row, zrp] using hu) (fun u hu => by simp [Ps.row] at hu; rcases hu with rfl | rfl | rfl | rfl | rfl | rfl | rfl <;> rfl) (by omega) (Nat.le_trans HY0.out.below.size hal.size)
                obtain ⟨ao7, cap7, hv7, hcc7⟩ := own_slice ho7
                subst hv7
                have hl2 : (l ++ [(⟨(o.s, o.i), 1, zrp⟩ : Ps)]).length = nl + 1 := by rw [HNL.out]; simp
                have hN : OnA w a (begX a x o.s o.i) (.slice ao7 (nl + 1) cap7) (l ++ [(⟨(o.s, o.i), 1, zrp⟩ : Ps)]) _ w8 := hA1.list (by rw [hl2, flatP_app, show flatP [(⟨(o.s, o.i), 1, zrp⟩ : Ps)] = Ps.row ⟨(o.s, o.i), 1, zrp⟩ from by simp [flatP]]; exact ho7) hg7.chg (fun k hk => hg7.at' k hk)
                have HNN : Hid _ := hN.drop
                have HL2 : Hid _ := hl2
                have HR7 : Hid (∀ ty, (Builtin.append_ #[30, 30] ty #[.slice aov nl capv, .slice (some ⟨Y.heap.size, 0, none⟩) 1 1]).run Try.prog (Y.alloc (.cells #[.int .i64 o.s, .int .i64 o.i, .int .i64 1, .int .i64 0, .int .i64 0, .int .i64 0, .int .i64 0] 38)) = .ok (.slice ao7 (nl + 1) cap7) w8) := hrun7
                clear hal hA1 hrw hrun7 ho7 hg7 hcc7 hN hl2 hR2 hm1 hi1 hi2 hi3 HY0
                go_wp2_with fail
                refine Calls.mono (num_any 0 Y) ?_
                rintro e w7 ⟨rfl, hw7⟩
                replace hw7 := hw7.symm
                subst hw7
                go_wp2_with (at_builtin; refine wpList_runs rfl _ _ 30 rfl rfl rfl HR7.out ?_)
                go_roundw
                case rel => exact ⟨k + 1, _, _, _, r2, rfl, by omega, by go_num, by rw [HL2.out]; omega, HR2.out, HNN.out⟩
                case measure => simp [intOf]; omega
              · as_aux_lemma =>
                  obtain ⟨f, hrb, hf1, hf0, hf133, hf130, hx1⟩ := HR.out.fresh HNO.out hnew
                  have HRB : Hid (resB a (x.la o.s) (isIn (o.s, o.i) x.op) (rfind o.i (x.rg o.s)) o.s o.i = (zrp, false, f)) := hrb
                  have HX1 : Hid (begX a x o.s o.i = x) := hx1
                  clear hrb hx1
                  have HBG : Hid _ := HXr.out.beg HR.out (s := o.s) (i := o.i) HOO.out.2.1 HRB.out HX1.out
                  have HXB : Hid (Blk wr bx #[.int .i64 o.k, .int .i64 o.s, .int .i64 o.i, .int .i64 o.e, .int .i64 o.v] 34) := (HXr.out.get (e := boxE w.heap.size bx #[.int .i64 o.k, .int .i64 o.s, .int .i64 o.i, .int .i64 o.e, .int .i64 o.v] 34) (by simp)).1
                  clear b0 b3 b4
                  have b0 : wr.cell? ⟨bx, 0, none⟩ = some (.int .i64 o.k) := HXB.out.cell 0
                  go_wp2_with fail
                  refine Calls.mono HBG.out ?_
                  rintro e w6 ⟨rfl, h6⟩
                  obtain ⟨yb, hyb⟩ : ∃ yb, yb = w6.heap.size := ⟨_, rfl⟩
                  obtain ⟨Y, hY⟩ : ∃ Y, Y = w6.alloc (.cells #[.int .i64 0, .int .i64 0, .int .i64 0, .int .i64 0] 36) := ⟨_, rfl⟩
                  have HY0 : Hid (OnA w a x (.slice aov nl capv) l [boxE w.heap.size yb #[.int .i64 0, .int .i64 0, .int .i64 0, .int .i64 0] 36, boxE w.heap.size bx #[.int .i64 o.k, .int .i64 o.s, .int .i64 o.i, .int .i64 o.e, .int .i64 o.v] 34] Y) := show OnA w a x (.slice aov nl capv) l [boxE w.heap.size yb #[.int .i64 0, .int .i64 0, .int .i64 0, .int .i64 0] 36, boxE w.heap.size bx #[.int .i64 o.k, .int .i64 o.s, .int .i64 o.i, .int .i64 o.e, .int .i64 o.v] 34] Y from by rw [hY, hyb]; exact h6.box _ _
                  clear h6 HBG HXB b0 b1 b2 HXr
                  simp only [zrp]
                  go_upto_region 34 with fail
                  rw [← hY, ← hyb]
                  clear hY hyb
                  have hyB : Blk Y yb #[.int .i64 0, .int .i64 0, .int .i64 0, .int .i64 0] 36 := (HY0.out.get (e := boxE w.heap.size yb #[.int .i64 0, .int .i64 0, .int .i64 0, .int .i64 0] 36) (by simp)).1
                  have hxB : Blk Y bx #[.int .i64 o.k, .int .i64 o.s, .int .i64 o.i, .int .i64 o.e, .int .i64 o.v] 34 := (HY0.out.get (e := boxE w.heap.size bx #[.int .i64 o.k, .int .i64 o.s, .int .i64 o.i, .int .i64 o.e, .int .i64 o.v] 34) (by simp)).1
                  have y0 : Y.cell? ⟨yb, 0, none⟩ = some (.int .i64 0) := hyB.cell 0
                  have y1 : Y.cell? ⟨yb, 1, none⟩ = some (.int .i64 0) := hyB.cell 1
                  have y2 : Y.cell? ⟨yb, 2, none⟩ = some (.int .i64 0) := hyB.cell 2
                  have y3 : Y.cell? ⟨yb, 3, none⟩ = some (.int .i64 0) := hyB.cell 3
                  have b1 : Y.cell? ⟨bx, 1, none⟩ = some (.int .i64 o.s) := hxB.cell 1
                  have b2 : Y.cell? ⟨bx, 2, none⟩ = some (.int .i64 o.i) := hxB.cell 2
                  clear hyB hxB
                  have hff : ¬ f < 1 := by omega
                  replace hf0 : (f == 0) = false := by simpa using hf0
                  replace hf133 : (f == 133) = false := by simpa using hf133
                  replace hf130 : (f == 130) = false := by simpa using hf130
                  go_wp2_with fail
                  refine Calls.mono (num_any f Y) ?_
                  rintro e w7 ⟨rfl, hw7⟩
                  replace hw7 := hw7.symm
                  subst hw7
                  go_wp2_with fail
                  refine Calls.mono (num_any f Y) ?_
                  rintro e w7 ⟨rfl, hw7⟩
                  replace hw7 := hw7.symm
                  subst hw7
                  go_wp2_with fail
                  refine Calls.mono (num_any f Y) ?_
                  rintro e w7 ⟨rfl, hw7⟩
                  replace hw7 := hw7.symm
                  subst hw7
                  go_wp2_with fail
                  refine Calls.mono (num_any f Y) ?_
                  rintro e w7 ⟨rfl, hw7⟩
                  replace hw7 := hw7.symm
                  subst hw7
                  go_wp2_with fail
                  have HFI : Hid (OnA w a x (.slice aov nl capv) l [] Y) := HY0.out.drop
                  clear HY0
                  go_roundw
                  case rel => exact ⟨k + 1, _, l, x, r, rfl, by omega, by go_num, by have := HNL.out; omega, HR.out, HFI.out⟩
                  case measure => simp [intOf]; omega

    · go_wp2_with fail
      go_ret
      exact ⟨rfl, HAA.out.below⟩
end Go.Proofs.Ytadfmnlkfcigoaa
