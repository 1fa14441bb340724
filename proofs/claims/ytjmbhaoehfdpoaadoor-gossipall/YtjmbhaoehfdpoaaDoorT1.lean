import Derived.Test.YtjmbhaoehfdpoaaDoorJoinA
import Derived.Test.YtjmbhaoehfdpoaaDoorVRAsk
import Derived.Deep.Cut
import Derived.Deep.CutBlock
namespace Go.Proofs.YtjmbhaoehfdpoaaDoor
open Go.RowKit Go.PlainAid Go.MapKept
set_option linter.unusedVariables false
set_option linter.unusedSimpArgs false
/-- Two rows of numbers that grow side by side. -/
structure TwoI (B : Nat) (dv uv : Value) (zs ys : List Int) (w : World) : Prop where
  d : w.ownsRow B 3 1 dv zs.length (zs.map I)
  u : w.ownsRow B 3 1 uv ys.length (ys.map I)
  dj : ∀ g, dv.ownBlock = some g → uv.ownBlock ≠ some g
theorem TwoI.nil (B : Nat) (w : World) : TwoI B (.slice none 0 0) (.slice none 0 0) [] [] w := ⟨World.ownsRow_nil _ _ _ _, World.ownsRow_nil _ _ _ _, fun g h => by cases h⟩
theorem TwoI.appD {B : Nat} {dv uv : Value} {zs ys : List Int} {w : World} (h : TwoI B dv uv zs ys w) (hB : B ≤ w.heap.size) (hl : zs.length ≤ 1000) (z : Int) :
    ∃ ao cap w', (∀ ty, (Builtin.append_ #[116, 116] ty #[dv, .slice (some ⟨w.heap.size, 0, none⟩) 1 1]).run Tryd.prog (w.alloc (.cells #[.int .i64 z] 3)) = .ok (.slice ao (zs.length + 1) cap) w') ∧ TwoI B (.slice ao (zs.length + 1) cap) uv (zs ++ [z]) ys w' ∧ Below B w w' := by
  obtain ⟨v', w', h1, h2, h3⟩ := app_one 116 3 (.int .i64 0) 1 8 Tryd.underlying116 info3 rfl (by decide) (by decide) h.d #[.int .i64 z] rfl (fun u hu => by simp at hu; subst hu; rfl) (by omega) hB
  obtain ⟨ao, cap, hv, _⟩ := own_slice h2
  subst hv
  refine ⟨ao, cap, w', h1, ⟨?_, ?_, fun g hg => ?_⟩, h3.below (fun j hj => (ownsRow_lt h.d hj).1) hB⟩
  · rw [List.length_append, List.map_append]; exact h2
  · exact ownsRow_same h.u (fun g hg => h3.chg.block g (ownsRow_lt h.u hg).2 (fun e => h.dj g e hg))
  · rcases h3.at' g hg with e | e
    · exact h.dj g e
    · intro e2
      have := (ownsRow_lt h.u e2).2
      omega
theorem TwoI.appU {B : Nat} {dv uv : Value} {zs ys : List Int} {w : World} (h : TwoI B dv uv zs ys w) (hB : B ≤ w.heap.size) (hl : ys.length ≤ 1000) (z : Int) :
    ∃ ao cap w', (∀ ty, (Builtin.append_ #[116, 116] ty #[uv, .slice (some ⟨w.heap.size, 0, none⟩) 1 1]).run Tryd.prog (w.alloc (.cells #[.int .i64 z] 3)) = .ok (.slice ao (ys.length + 1) cap) w') ∧ TwoI B dv (.slice ao (ys.length + 1) cap) zs (ys ++ [z]) w' ∧ Below B w w' := by
  obtain ⟨v', w', h1, h2, h3⟩ := app_one 116 3 (.int .i64 0) 1 8 Tryd.underlying116 info3 rfl (by decide) (by decide) h.u #[.int .i64 z] rfl (fun u hu => by simp at hu; subst hu; rfl) (by omega) hB
  obtain ⟨ao, cap, hv, _⟩ := own_slice h2
  subst hv
  refine ⟨ao, cap, w', h1, ⟨?_, ?_, fun g hg e => ?_⟩, h3.below (fun j hj => (ownsRow_lt h.u hj).1) hB⟩
  · exact ownsRow_same h.d (fun g hg => h3.chg.block g (ownsRow_lt h.d hg).2 (fun e => h.dj g hg e))
  · rw [List.length_append, List.map_append]; exact h2
  · rcases h3.at' g e with e | e
    · exact h.dj g hg e
    · have := (ownsRow_lt h.d hg).2
      omega
theorem flatR_at : ∀ {rs : List Rg} {q : Nat} {r : Rg}, rs[q]? = some r → (flatR rs)[q * 2]? = some (I r.1) ∧ (flatR rs)[q * 2 + 1]? = some (I r.2)
  | [], q, r, h => by simp at h
  | x :: t, 0, r, h => by
    simp at h
    subst h
    exact ⟨rfl, rfl⟩
  | x :: t, q + 1, r, h => by
    have ih := flatR_at (rs := t) (q := q) (r := r) (by simpa using h)
    rw [flatR_cons, show (q + 1) * 2 = q * 2 + 2 by omega]
    exact ⟨by simpa using ih.1, by simpa using ih.2⟩
set_option maxRecDepth 100000 in
set_option maxHeartbeats 6400000 in
theorem rtick_any {L0 qb kb rb N : Nat} {me : Int} {gv vv : Value} {A : List RE} {s : Led.LS} {VA : List Ent} (n : List UInt8) (w : World) (hG : RGs L0 qb me N gv A w) (hs : Blk w kb s.cs 94) (hV : RVw L0 rb me N vv VA w) (hme : IntKind.i64.wrap me = me) (hN : N ≤ 16) (hA : A.length ≤ 100000) (hVA : VA.length ≤ 100000) (h1 : IntKind.i64.wrap ((rlk n A).1 - s.d) = (rlk n A).1 - s.d) (h2 : IntKind.i64.wrap ((rlk n A).2 - s.u) = (rlk n A).2 - s.u) :
    Calls Tryd.prog 44 #[.pointer (some ⟨qb, 0, none⟩), .string ⟨n.toArray⟩, .pointer (some ⟨kb, 0, none⟩), .pointer (some ⟨rb, 0, none⟩)] w fun e w' => e = .returned (tickV (tickA me (rknownL n VA N) N (byd (rlk n A).1 s.d) (byd (rlk n A).2 s.u))) ∧ RGs L0 qb me N gv (rtickN me n A (rknownL n VA N) N (byd (rlk n A).1 s.d) (byd (rlk n A).2 s.u)) w' ∧ Chg (fun k => gv.ownBlock = some k) w w' := by
  have hlen : (rknownL n VA N).length = N := by simp [rknownL]
  have HKN : Hid (∀ W, Below w.heap.size w W → Calls Tryd.prog 59 #[.pointer (some ⟨rb, 0, none⟩), .string ⟨n.toArray⟩] W fun e w' => ∃ u, e = .returned u ∧ w'.ownsRow W.heap.size 36 2 u N (flatR (rknownL n VA N)) ∧ Below W.heap.size W w') := fun W hb => rknown_any n W (hV.more hb) hN hVA
  have HLA : Hid (∀ W, Below w.heap.size w W → _) := fun W hb => rlacks_any n W (hG.more hb) hA
  have HCL : Hid (∀ W, Below w.heap.size w W → _) := fun W hb => rclear_any n W (hG.more hb) hA
  have HRI : Hid (∀ W, Below w.heap.size w W → Calls Tryd.prog 33 #[.pointer (some ⟨kb, 0, none⟩)] W fun r w' => r = .returned (.agg #[.int .i64 s.d, .int .i64 s.u]) ∧ Below W.heap.size W w') := fun W hb => Led.rrights_any W (hs.below hb hs.lt)
  have HG : Hid (RGs L0 qb me N gv A w) := hG
  have HN : Hid (N ≤ 16) := hN
  obtain ⟨rs, hrs⟩ : ∃ rs, rs = rknownL n VA N := ⟨_, rfl⟩
  rw [← hrs] at hlen HKN ⊢
  have HL : Hid (rs.length = N) := hlen
  have HMX1 : Hid (max 0 ((rlk n A).1 - s.d) = byd (rlk n A).1 s.d) := rfl
  have HMX2 : Hid (max 0 ((rlk n A).2 - s.u) = byd (rlk n A).2 s.u) := rfl
  obtain ⟨wd, hwd⟩ : ∃ wd, wd = byd (rlk n A).1 s.d := ⟨_, rfl⟩
  obtain ⟨wu, hwu⟩ : ∃ wu, wu = byd (rlk n A).2 s.u := ⟨_, rfl⟩
  have hd0 : 0 ≤ wd := by rw [hwd]; unfold byd; omega
  have hu0 : 0 ≤ wu := by rw [hwu]; unfold byd; omega
  rw [← hwd] at HMX1
  rw [← hwu] at HMX2
  rw [← hwd, ← hwu]
  have HPN : Hid (whomI me rs N wd wu = -1 ∨ 0 ≤ whomI me rs N wd wu) := whom_nn me rs N wd wu hlen
  generalize (rlk n A).1 = l1 at *
  generalize (rlk n A).2 = l2 at *
  obtain ⟨xb, hxb⟩ : ∃ b, b = w.heap.size := ⟨_, rfl⟩
  obtain ⟨X, hX⟩ : ∃ X, X = w.alloc (.cells #[.int .i64 0, .int .i64 0] 36) := ⟨_, rfl⟩
  have hbX : Below w.heap.size w X := by rw [hX]; exact (Below.refl _ _).alloc (Nat.le_refl _) _
  have HXB : Hid (Blk X xb #[.int .i64 0, .int .i64 0] 36) := show Blk X xb #[.int .i64 0, .int .i64 0] 36 from by rw [hX, hxb]; exact heap_alloc_new w _
  have HXL : Hid (w.heap.size ≤ xb) := show w.heap.size ≤ xb from by omega
  have HBX : Hid (Below w.heap.size w X) := hbX
  clear hG hs hV hA hVA hlen hrs hwd hwu hbX hN
  go_enter Tryd.func44, Tryd.ntmps44
  go_upto_region 1 with fail
  rw [← hX, ← hxb]
  clear hX hxb
  go_wp2_with fail
  refine Calls.mono (HLA.out X HBX.out) ?_
  rintro e9 w1 ⟨rfl, hb1⟩
  obtain ⟨yb, hyb⟩ : ∃ b, b = w1.heap.size := ⟨_, rfl⟩
  obtain ⟨Y, hY⟩ : ∃ Y, Y = w1.alloc (.cells #[.int .i64 l1, .int .i64 l2] 36) := ⟨_, rfl⟩
  have hbY0 : Below w1.heap.size w1 Y := by rw [hY]; exact (Below.refl _ _).alloc (Nat.le_refl _) _
  have hbXY : Below X.heap.size X Y := hb1.trans (hbY0.mono hb1.size)
  have HBY : Hid (Below w.heap.size w Y) := HBX.out.trans (hbXY.mono HBX.out.size)
  have HXY : Hid (Blk Y xb #[.int .i64 0, .int .i64 0] 36) := HXB.out.below hbXY HXB.out.lt
  have HYB : Hid (Blk Y yb #[.int .i64 l1, .int .i64 l2] 36) := show Blk Y yb #[.int .i64 l1, .int .i64 l2] 36 from by rw [hY, hyb]; exact heap_alloc_new w1 _
  clear hbY0 hbXY hb1 HLA HBX HXB
  go_upto_region 2 with fail
  rw [← hY, ← hyb]
  clear hY hyb
  go_wp2_with fail
  refine Calls.mono (HRI.out Y HBY.out) ?_
  rintro e9 w2 ⟨rfl, hb2⟩
  obtain ⟨zb, hzb⟩ : ∃ b, b = w2.heap.size := ⟨_, rfl⟩
  obtain ⟨Z, hZ⟩ : ∃ Z, Z = w2.alloc (.cells #[.int .i64 s.d, .int .i64 s.u] 36) := ⟨_, rfl⟩
  have hbZ0 : Below w2.heap.size w2 Z := by rw [hZ]; exact (Below.refl _ _).alloc (Nat.le_refl _) _
  have hbYZ : Below Y.heap.size Y Z := hb2.trans (hbZ0.mono hb2.size)
  have HBZ : Hid (Below w.heap.size w Z) := HBY.out.trans (hbYZ.mono HBY.out.size)
  have HXZ : Hid (Blk Z xb #[.int .i64 0, .int .i64 0] 36) := HXY.out.below hbYZ HXY.out.lt
  have hYZ : Blk Z yb #[.int .i64 l1, .int .i64 l2] 36 := HYB.out.below hbYZ HYB.out.lt
  have hZB : Blk Z zb #[.int .i64 s.d, .int .i64 s.u] 36 := by rw [hZ, hzb]; exact heap_alloc_new w2 _
  have y0 : Z.cell? ⟨yb, 0, none⟩ = some (.int .i64 l1) := hYZ.cell 0
  have y1 : Z.cell? ⟨yb, 1, none⟩ = some (.int .i64 l2) := hYZ.cell 1
  have q0 : Z.cell? ⟨zb, 0, none⟩ = some (.int .i64 s.d) := hZB.cell 0
  have q1 : Z.cell? ⟨zb, 1, none⟩ = some (.int .i64 s.u) := hZB.cell 1
  clear hbZ0 hbYZ hb2 HRI HBY HXY HYB hYZ hZB
  go_upto_region 3 with fail
  rw [← hZ, ← hzb]
  clear hZ hzb
  go_upto_region 5 with fail
  rw [HMX1.out, HMX2.out]
  clear HMX1 HMX2 h1 h2 y0 y1 q0 q1
  have hfin : ∀ (a : Int) (b c : Int) (g : Bool) (A' : List RE) (V : World), tickA me rs N wd wu = (a, b, c, g) → rtickN me n A rs N wd wu = A' → RGs L0 qb me N gv A' V → Chg (fun k => gv.ownBlock = some k) w V → Blk V xb #[.int .i64 0, .int .i64 0] 36 → RGs L0 qb me N gv (rtickN me n A rs N wd wu) ((V.setCell ⟨xb, 0, none⟩ (.int .i64 b)).setCell ⟨xb, 1, none⟩ (.int .i64 c)) ∧ Chg (fun k => gv.ownBlock = some k) w ((V.setCell ⟨xb, 0, none⟩ (.int .i64 b)).setCell ⟨xb, 1, none⟩ (.int .i64 c)) ∧ Blk ((V.setCell ⟨xb, 0, none⟩ (.int .i64 b)).setCell ⟨xb, 1, none⟩ (.int .i64 c)) xb #[.int .i64 b, .int .i64 c] 36 := by
    intro a b c g A' V e1 e2 hG hC hB
    have hc : Chg (fun k => k = xb) V ((V.setCell ⟨xb, 0, none⟩ (.int .i64 b)).setCell ⟨xb, 1, none⟩ (.int .i64 c)) := (setCell_chg V xb 0 _).trans (setCell_chg _ xb 1 _) (fun _ _ e => e)
    refine ⟨by rw [e2]; exact hG.keep (hc.block _ hG.blk.lt (fun e => Blk.ne_t hG.blk hB (by decide) e)) (fun g hg => hc.block _ (ownsRow_lt hG.row hg).2 (fun e => hG.own_ne hB (by decide) (by rw [← e]; exact hg))), hC.trans hc (fun j hj e => absurd hj (by have := HXL.out; omega)), (hB.set 0 (.int .i64 b)).set 1 (.int .i64 c)⟩
  have HFIN : Hid _ := hfin
  clear hfin
  by_cases hz : wd = 0 ∧ wu = 0
  · have hT : tickA me rs N wd wu = (0, 0, 0, false) := by unfold tickA; rw [if_pos hz]
    have hR : rtickN me n A rs N wd wu = clr n A := by unfold rtickN; rw [if_pos (show tickCl me rs N wd wu from Or.inl hz)]
    have HT : Hid (tickA me rs N wd wu = (0, 0, 0, false)) := hT
    have HRR : Hid (rtickN me n A rs N wd wu = clr n A) := hR
    have d0 : (wd == 0) = true := by simpa using hz.1
    have u0 : (wu == 0) = true := by simpa using hz.2
    clear hz hd0 hu0 hT hR HPN
    go_wp2_with fail
    refine Calls.mono (HCL.out Z HBZ.out) ?_
    rintro e9 w3 ⟨rfl, hG3, hC3⟩
    have hB3 : Blk w3 xb #[.int .i64 0, .int .i64 0] 36 := hC3.blk HXZ.out (fun e => (HG.out.more HBZ.out).own_ne HXZ.out (by decide) e)
    have HF : Hid _ := HFIN.out 0 0 0 false _ w3 HT.out HRR.out hG3 ((Chg.ofBelow _ HBZ.out).trans hC3 (fun _ _ e => e)) hB3
    have c0 : w3.cell? ⟨xb, 0, none⟩ = some (.int .i64 0) := hB3.cell 0
    have c1 : w3.cell? ⟨xb, 1, none⟩ = some (.int .i64 0) := hB3.cell 1
    have f0 : w3.frozen? ⟨xb, 0, none⟩ = false := hB3.frozen 0
    have f1 : w3.frozen? ⟨xb, 1, none⟩ = false := hB3.frozen 1
    clear hG3 hC3 hB3
    first | go_end0 | skip
    go_wp2_with fail
    refine bodyPost_ret (results_three Tryd.results44 _ _ xb _ _ _ rfl rfl rfl HF.out.2.2 (by kernel_rfl)) rfl ?_
    exact ⟨by rw [HT.out]; rfl, HF.out.1, HF.out.2.1⟩
  · --REST
    have HZN : Hid (¬ (wd = 0 ∧ wu = 0)) := hz
    by_cases e0 : wd = 0
    · have d0 : (wd == 0) = true := by simpa using e0
      have u0 : (wu == 0) = false := by rw [beq_eq_false_iff_ne]; exact fun e => hz ⟨e0, e⟩
      have hwd1 : ¬ 0 < wd := by omega
      have hwu1 : 0 < wu := by have : ¬ wu = 0 := fun e => hz ⟨e0, e⟩; omega
      have HE0 : Hid (wd = 0) := e0
      clear hz e0
      go_wp2_with fail
      refine Calls.mono (HKN.out Z HBZ.out) ?_
      rintro e9 w3 ⟨u, rfl, hrow, hb3⟩
      obtain ⟨ko, kc, hu, hkc⟩ := own_slice hrow
      subst hu
      have HAT : Hid (∀ q r, rs[q]? = some r → ∃ g, ko = some ⟨g, 0, none⟩ ∧ w3.cell? ⟨g, q * 2, none⟩ = some (.int .i64 r.1) ∧ w3.cell? ⟨g, q * 2 + 1, none⟩ = some (.int .i64 r.2)) := fun q r hr => by
        have hql := (List.getElem?_eq_some_iff.1 hr).1
        rcases hrow.2 with ⟨e, h0⟩ | ⟨g, c, cur, e, _⟩
        · exact absurd hql (by rw [HL.out]; omega)
        · cases e
          have k1 := hrow.cells (g := g) rfl (q * 2) _ (flatR_at hr).1
          have k2 := hrow.cells (g := g) rfl (q * 2 + 1) _ (flatR_at hr).2
          rw [addr_add, Nat.zero_add] at k1 k2
          exact ⟨g, rfl, k1, k2⟩
      have HB3 : Hid (Below w.heap.size w w3) := HBZ.out.trans (hb3.mono HBZ.out.size)
      have HX3 : Hid (Blk w3 xb #[.int .i64 0, .int .i64 0] 36) := HXZ.out.below hb3 HXZ.out.lt
      have HN16 : N ≤ 16 := HN.out
      clear hrow hb3 HKN HXZ HBZ
      go_wp2_with fail
      go_loopw [16, 17, 18] (fun dv uv iv wr => ∃ (q : Nat) (d' u' : Value), d' = dv ∧ u' = uv ∧ q ≤ N ∧ iv = .int .i64 q ∧ TwoI w3.heap.size d' u' ((rs.take q).map (·.1)) ((rs.take q).map (·.2)) wr ∧ Below w3.heap.size w3 wr) (fun _ _ iv _ => N - (intOf iv).toNat)
      case atStart => exact ⟨0, _, _, rfl, rfl, Nat.zero_le _, rfl, by simpa using TwoI.nil _ _, Below.refl _ _⟩
      case round =>
        obtain ⟨q, d', u', rfl, rfl, hq, rfl, hT, hbw⟩ := hrel
        by_cases hlt : q < N
        · obtain ⟨r, hr⟩ : ∃ r, rs[q]? = some r := ⟨_, List.getElem?_eq_getElem (by rw [HL.out]; exact hlt)⟩
          obtain ⟨g, hko, a1, a2⟩ := HAT.out q r hr
          subst hko
          have g1 : wr.cell? ⟨g, q * 2, none⟩ = some (.int .i64 r.1) := cell_below hbw a1
          have g2 : wr.cell? ⟨g, q * 2 + 1, none⟩ = some (.int .i64 r.2) := cell_below hbw a2
          have hl1 : ((rs.take q).map (·.1)).length = q := by rw [List.length_map, List.length_take, HL.out]; omega
          have hl2 : ((rs.take q).map (·.2)).length = q := by rw [List.length_map, List.length_take, HL.out]; omega
          obtain ⟨ao, cap, w5, hrD, hT5, hb5⟩ := hT.appD hbw.size (by omega) r.1
          obtain ⟨ao2, cap2, w6, hrU, hT6, hb6⟩ := hT5.appU (Nat.le_trans hbw.size hb5.size) (by omega) r.2
          rw [hl1] at hrD hT5 hT6
          rw [hl2] at hrU hT6
          have h5 : w5.cell? ⟨g, q * 2 + 1, none⟩ = some (.int .i64 r.2) := (hb5.cell (p := ⟨g, q * 2 + 1, none⟩) (World.block_lt_of_cell? w3 _ a2)).trans g2
          have HRD : Hid _ := hrD
          have HRU : Hid _ := hrU
          have HT6 : Hid (TwoI w3.heap.size (.slice ao (q + 1) cap) (.slice ao2 (q + 1) cap2) ((rs.take (q + 1)).map (·.1)) ((rs.take (q + 1)).map (·.2)) w6) := show TwoI w3.heap.size (.slice ao (q + 1) cap) (.slice ao2 (q + 1) cap2) ((rs.take (q + 1)).map (·.1)) ((rs.take (q + 1)).map (·.2)) w6 from by
            have e : rs.take (q + 1) = rs.take q ++ [r] := by rw [List.take_add_one, hr]; rfl
            rw [e, List.map_append, List.map_append]
            exact hT6
          have HB6 : Hid (Below w3.heap.size w3 w6) := (hbw.trans hb5).trans hb6
          obtain ⟨do_, dc_, hdv, _⟩ := own_slice hT.d
          rw [hl1] at hdv
          obtain ⟨uo_, uc_, huv, _⟩ := own_slice hT.u
          rw [hl2] at huv
          subst hdv
          subst huv
          clear hT hbw hrD hrU hT5 hT6 hb5 hb6 a1 a2 hr hl1 hl2
          go_upto_region 15 with (at_builtin; refine wpList_runs rfl _ _ 116 rfl rfl rfl HRD.out ?_)
          go_wp2_with (at_builtin; refine wpList_runs rfl _ _ 116 rfl rfl rfl HRU.out ?_)
          go_roundw
          case rel => exact ⟨q + 1, _, _, rfl, rfl, by omega, by go_num, HT6.out, HB6.out⟩
          case measure => simp [intOf]; omega
        · obtain rfl : q = N := by omega
          rw [List.take_of_length_le (by rw [HL.out]; exact Nat.le_refl _)] at hT
          obtain ⟨da, dc, hdv, _, _, _, hfd, hdl⟩ := own_from hT.d
          obtain ⟨ua, uc, huv, _, _, _, hfu, hul⟩ := own_from hT.u
          rw [List.length_map, HL.out] at hdv hdl huv hul
          subst hdv
          subst huv
          have HFD : Hid (FromI wr da (rs.map (·.1))) := hfd
          have HFU : Hid (FromI wr ua (rs.map (·.2))) := hfu
          have HBW : Hid (Below w.heap.size w wr) := HB3.out.trans (hbw.mono HB3.out.size)
          have HXW : Hid (Blk wr xb #[.int .i64 0, .int .i64 0] 36) := HX3.out.below hbw HX3.out.lt
          have HAD : Hid (∀ W, FromI W da (rs.map (·.1)) → Calls Tryd.prog 60 #[.int .i64 me, .slice da q dc] W fun r w' => r = .returned (.int .i64 (askD me rs q)) ∧ ∃ x, w' = W.drewN x) := fun W h => rask_any me hme W (by rw [List.length_map]; exact HL.out) h (by omega)
          have HAU : Hid (∀ W, FromI W ua (rs.map (·.2)) → Calls Tryd.prog 60 #[.int .i64 me, .slice ua q uc] W fun r w' => r = .returned (.int .i64 (askU me rs q)) ∧ ∃ x, w' = W.drewN x) := fun W h => rask_any me hme W (by rw [List.length_map]; exact HL.out) h (by omega)
          have HQM : Hid (∀ W, Below w.heap.size w W → W.cell? ⟨qb, 0, none⟩ = some (.int .i64 me)) := fun W h => (HG.out.more h).blk.cell 0
          have m0 := HQM.out wr HBW.out
          have HRD : Hid (askD me rs q = -1 ∨ 0 ≤ askD me rs q) := ask_range me _ (by rw [List.length_map]; exact HL.out)
          have HRU : Hid (askU me rs q = -1 ∨ 0 ≤ askU me rs q) := ask_range me _ (by rw [List.length_map]; exact HL.out)
          have HWH : Hid (whomI me rs q wd wu = if (if 0 < wd then askD me rs q else -1) = -1 ∧ 0 < wu then askU me rs q else (if 0 < wd then askD me rs q else -1)) := rfl
          generalize askD me rs q = ad at *
          generalize askU me rs q = au at *
          clear hT hbw hfd hfu hdl hul HX3 HB3 HAT hlt
          go_wp2_with fail
          refine Calls.mono (HAU.out wr HFU.out) ?_
          rintro e9 w8 ⟨rfl, x8, hw8⟩
          subst hw8
          by_cases hau : au < 0
          · have hau1 : au = -1 := by have := HRU.out; omega
            have hW : whomI me rs q wd wu = -1 := by rw [HWH.out, if_neg (show ¬ 0 < wd by omega), if_pos ⟨rfl, hwu1⟩]; exact hau1
            have HT : Hid (tickA me rs q wd wu = (0, 0, 0, false)) := show _ = _ from by unfold tickA; rw [if_neg HZN.out, if_pos hW]
            have HRR : Hid (rtickN me n A rs q wd wu = A) := show _ = _ from by unfold rtickN; rw [if_neg (show ¬ tickCl me rs q wd wu from fun h => h.elim HZN.out (fun h => h hW))]
            have hB3 : Blk (wr.drewN x8) xb #[.int .i64 0, .int .i64 0] 36 := HXW.out
            have HF : Hid _ := HFIN.out 0 0 0 false _ (wr.drewN x8) HT.out HRR.out (HG.out.more (below_drewN HBW.out _)) (Chg.ofBelow _ (below_drewN HBW.out _)) hB3
            have c0 : World.cell? (wr.drewN x8) ⟨xb, 0, none⟩ = some (.int .i64 0) := hB3.cell 0
            have c1 : World.cell? (wr.drewN x8) ⟨xb, 1, none⟩ = some (.int .i64 0) := hB3.cell 1
            have f0 : World.frozen? (wr.drewN x8) ⟨xb, 0, none⟩ = false := hB3.frozen 0
            have f1 : World.frozen? (wr.drewN x8) ⟨xb, 1, none⟩ = false := hB3.frozen 1
            clear hW hB3
            go_wp2_with fail
            refine bodyPost_ret (results_three Tryd.results44 _ _ xb _ _ _ rfl rfl rfl HF.out.2.2 (by kernel_rfl)) rfl ?_
            exact ⟨by rw [HT.out]; rfl, HF.out.1, HF.out.2.1⟩
          · have hW : whomI me rs q wd wu = au := by rw [HWH.out, if_neg (show ¬ 0 < wd by omega), if_pos ⟨rfl, hwu1⟩]
            have HT : Hid (tickA me rs q wd wu = (au, wd, wu, true)) := show _ = _ from by unfold tickA; rw [if_neg HZN.out, if_neg (by rw [hW]; omega), hW]
            have HRR : Hid (rtickN me n A rs q wd wu = clr n A) := show _ = _ from by unfold rtickN; rw [if_pos (show tickCl me rs q wd wu from Or.inr (by rw [hW]; omega))]
            clear hW
            go_wp2_with fail
            refine Calls.mono (HCL.out (wr.drewN x8) (below_drewN HBW.out _)) ?_
            rintro e9 w7 ⟨rfl, hG3, hC3⟩
            have hB3 : Blk w7 xb #[.int .i64 0, .int .i64 0] 36 := hC3.blk (show Blk (wr.drewN x8) xb #[.int .i64 0, .int .i64 0] 36 from HXW.out) (fun e => (HG.out.more (below_drewN HBW.out _)).own_ne (show Blk (wr.drewN x8) xb #[.int .i64 0, .int .i64 0] 36 from HXW.out) (by decide) e)
            have HF : Hid _ := HFIN.out au wd wu true _ w7 HT.out HRR.out hG3 ((Chg.ofBelow _ (below_drewN HBW.out _)).trans hC3 (fun _ _ e => e)) hB3
            have c0 : w7.cell? ⟨xb, 0, none⟩ = some (.int .i64 0) := hB3.cell 0
            have c1 : w7.cell? ⟨xb, 1, none⟩ = some (.int .i64 0) := hB3.cell 1
            have f0 : w7.frozen? ⟨xb, 0, none⟩ = false := hB3.frozen 0
            have f1 : w7.frozen? ⟨xb, 1, none⟩ = false := hB3.frozen 1
            clear hG3 hC3 hB3
            first | go_end0 | skip
            go_wp2_with fail
            refine bodyPost_ret (results_three Tryd.results44 _ _ xb _ _ _ rfl rfl rfl HF.out.2.2 (by kernel_rfl)) rfl ?_
            exact ⟨by rw [HT.out]; rfl, HF.out.1, HF.out.2.1⟩
    · have d0 : (wd == 0) = false := by rw [beq_eq_false_iff_ne]; exact e0
      have hwd1 : 0 < wd := by omega
      clear hz e0
      go_wp2_with fail
      refine Calls.mono (HKN.out Z HBZ.out) ?_
      rintro e9 w3 ⟨u, rfl, hrow, hb3⟩
      obtain ⟨ko, kc, hu, hkc⟩ := own_slice hrow
      subst hu
      have HAT : Hid (∀ q r, rs[q]? = some r → ∃ g, ko = some ⟨g, 0, none⟩ ∧ w3.cell? ⟨g, q * 2, none⟩ = some (.int .i64 r.1) ∧ w3.cell? ⟨g, q * 2 + 1, none⟩ = some (.int .i64 r.2)) := fun q r hr => by
        have hql := (List.getElem?_eq_some_iff.1 hr).1
        rcases hrow.2 with ⟨e, h0⟩ | ⟨g, c, cur, e, _⟩
        · exact absurd hql (by rw [HL.out]; omega)
        · cases e
          have k1 := hrow.cells (g := g) rfl (q * 2) _ (flatR_at hr).1
          have k2 := hrow.cells (g := g) rfl (q * 2 + 1) _ (flatR_at hr).2
          rw [addr_add, Nat.zero_add] at k1 k2
          exact ⟨g, rfl, k1, k2⟩
      have HB3 : Hid (Below w.heap.size w w3) := HBZ.out.trans (hb3.mono HBZ.out.size)
      have HX3 : Hid (Blk w3 xb #[.int .i64 0, .int .i64 0] 36) := HXZ.out.below hb3 HXZ.out.lt
      have HN16 : N ≤ 16 := HN.out
      clear hrow hb3 HKN HXZ HBZ
      go_wp2_with fail
      go_loopw [16, 17, 18] (fun dv uv iv wr => ∃ (q : Nat) (d' u' : Value), d' = dv ∧ u' = uv ∧ q ≤ N ∧ iv = .int .i64 q ∧ TwoI w3.heap.size d' u' ((rs.take q).map (·.1)) ((rs.take q).map (·.2)) wr ∧ Below w3.heap.size w3 wr) (fun _ _ iv _ => N - (intOf iv).toNat)
      case atStart => exact ⟨0, _, _, rfl, rfl, Nat.zero_le _, rfl, by simpa using TwoI.nil _ _, Below.refl _ _⟩
      case round =>
        obtain ⟨q, d', u', rfl, rfl, hq, rfl, hT, hbw⟩ := hrel
        by_cases hlt : q < N
        · obtain ⟨r, hr⟩ : ∃ r, rs[q]? = some r := ⟨_, List.getElem?_eq_getElem (by rw [HL.out]; exact hlt)⟩
          obtain ⟨g, hko, a1, a2⟩ := HAT.out q r hr
          subst hko
          have g1 : wr.cell? ⟨g, q * 2, none⟩ = some (.int .i64 r.1) := cell_below hbw a1
          have g2 : wr.cell? ⟨g, q * 2 + 1, none⟩ = some (.int .i64 r.2) := cell_below hbw a2
          have hl1 : ((rs.take q).map (·.1)).length = q := by rw [List.length_map, List.length_take, HL.out]; omega
          have hl2 : ((rs.take q).map (·.2)).length = q := by rw [List.length_map, List.length_take, HL.out]; omega
          obtain ⟨ao, cap, w5, hrD, hT5, hb5⟩ := hT.appD hbw.size (by omega) r.1
          obtain ⟨ao2, cap2, w6, hrU, hT6, hb6⟩ := hT5.appU (Nat.le_trans hbw.size hb5.size) (by omega) r.2
          rw [hl1] at hrD hT5 hT6
          rw [hl2] at hrU hT6
          have h5 : w5.cell? ⟨g, q * 2 + 1, none⟩ = some (.int .i64 r.2) := (hb5.cell (p := ⟨g, q * 2 + 1, none⟩) (World.block_lt_of_cell? w3 _ a2)).trans g2
          have HRD : Hid _ := hrD
          have HRU : Hid _ := hrU
          have HT6 : Hid (TwoI w3.heap.size (.slice ao (q + 1) cap) (.slice ao2 (q + 1) cap2) ((rs.take (q + 1)).map (·.1)) ((rs.take (q + 1)).map (·.2)) w6) := show TwoI w3.heap.size (.slice ao (q + 1) cap) (.slice ao2 (q + 1) cap2) ((rs.take (q + 1)).map (·.1)) ((rs.take (q + 1)).map (·.2)) w6 from by
            have e : rs.take (q + 1) = rs.take q ++ [r] := by rw [List.take_add_one, hr]; rfl
            rw [e, List.map_append, List.map_append]
            exact hT6
          have HB6 : Hid (Below w3.heap.size w3 w6) := (hbw.trans hb5).trans hb6
          obtain ⟨do_, dc_, hdv, _⟩ := own_slice hT.d
          rw [hl1] at hdv
          obtain ⟨uo_, uc_, huv, _⟩ := own_slice hT.u
          rw [hl2] at huv
          subst hdv
          subst huv
          clear hT hbw hrD hrU hT5 hT6 hb5 hb6 a1 a2 hr hl1 hl2
          go_upto_region 15 with (at_builtin; refine wpList_runs rfl _ _ 116 rfl rfl rfl HRD.out ?_)
          go_wp2_with (at_builtin; refine wpList_runs rfl _ _ 116 rfl rfl rfl HRU.out ?_)
          go_roundw
          case rel => exact ⟨q + 1, _, _, rfl, rfl, by omega, by go_num, HT6.out, HB6.out⟩
          case measure => simp [intOf]; omega
        · obtain rfl : q = N := by omega
          rw [List.take_of_length_le (by rw [HL.out]; exact Nat.le_refl _)] at hT
          obtain ⟨da, dc, hdv, _, _, _, hfd, hdl⟩ := own_from hT.d
          obtain ⟨ua, uc, huv, _, _, _, hfu, hul⟩ := own_from hT.u
          rw [List.length_map, HL.out] at hdv hdl huv hul
          subst hdv
          subst huv
          have HFD : Hid (FromI wr da (rs.map (·.1))) := hfd
          have HFU : Hid (FromI wr ua (rs.map (·.2))) := hfu
          have HBW : Hid (Below w.heap.size w wr) := HB3.out.trans (hbw.mono HB3.out.size)
          have HXW : Hid (Blk wr xb #[.int .i64 0, .int .i64 0] 36) := HX3.out.below hbw HX3.out.lt
          have HAD : Hid (∀ W, FromI W da (rs.map (·.1)) → Calls Tryd.prog 60 #[.int .i64 me, .slice da q dc] W fun r w' => r = .returned (.int .i64 (askD me rs q)) ∧ ∃ x, w' = W.drewN x) := fun W h => rask_any me hme W (by rw [List.length_map]; exact HL.out) h (by omega)
          have HAU : Hid (∀ W, FromI W ua (rs.map (·.2)) → Calls Tryd.prog 60 #[.int .i64 me, .slice ua q uc] W fun r w' => r = .returned (.int .i64 (askU me rs q)) ∧ ∃ x, w' = W.drewN x) := fun W h => rask_any me hme W (by rw [List.length_map]; exact HL.out) h (by omega)
          have HQM : Hid (∀ W, Below w.heap.size w W → W.cell? ⟨qb, 0, none⟩ = some (.int .i64 me)) := fun W h => (HG.out.more h).blk.cell 0
          have m0 := HQM.out wr HBW.out
          have HRD : Hid (askD me rs q = -1 ∨ 0 ≤ askD me rs q) := ask_range me _ (by rw [List.length_map]; exact HL.out)
          have HRU : Hid (askU me rs q = -1 ∨ 0 ≤ askU me rs q) := ask_range me _ (by rw [List.length_map]; exact HL.out)
          have HWH : Hid (whomI me rs q wd wu = if (if 0 < wd then askD me rs q else -1) = -1 ∧ 0 < wu then askU me rs q else (if 0 < wd then askD me rs q else -1)) := rfl
          generalize askD me rs q = ad at *
          generalize askU me rs q = au at *
          clear hT hbw hfd hfu hdl hul HX3 HB3 HAT hlt
          go_wp2_with fail
          refine Calls.mono (HAD.out wr HFD.out) ?_
          rintro e9 w9 ⟨rfl, x9, hw9⟩
          subst hw9
          have m1 := HQM.out (wr.drewN x9) (below_drewN HBW.out _)
          by_cases had : ad < 0
          · have had1 : ad = -1 := by have := HRD.out; omega
            by_cases hwu1 : 0 < wu
            · have HA1 : Hid (ad = -1) := had1
              clear had1
              go_wp2_with fail
              refine Calls.mono (HAU.out (wr.drewN x9) HFU.out) ?_
              rintro e9 w8 ⟨rfl, x8, hw8⟩
              replace hw8 : w8 = wr.drewN (x9 + x8) := hw8.trans (World.drewN_drewN _ _ _)
              subst hw8
              by_cases hau : au < 0
              · have hau1 : au = -1 := by have := HRU.out; omega
                have hW : whomI me rs q wd wu = -1 := by rw [HWH.out, if_pos hwd1, if_pos ⟨HA1.out, hwu1⟩]; exact hau1
                have HT : Hid (tickA me rs q wd wu = (0, 0, 0, false)) := show _ = _ from by unfold tickA; rw [if_neg HZN.out, if_pos hW]
                have HRR : Hid (rtickN me n A rs q wd wu = A) := show _ = _ from by unfold rtickN; rw [if_neg (show ¬ tickCl me rs q wd wu from fun h => h.elim HZN.out (fun h => h hW))]
                have hB3 : Blk (wr.drewN (x9 + x8)) xb #[.int .i64 0, .int .i64 0] 36 := HXW.out
                have HF : Hid _ := HFIN.out 0 0 0 false _ (wr.drewN (x9 + x8)) HT.out HRR.out (HG.out.more (below_drewN HBW.out _)) (Chg.ofBelow _ (below_drewN HBW.out _)) hB3
                have c0 : World.cell? (wr.drewN (x9 + x8)) ⟨xb, 0, none⟩ = some (.int .i64 0) := hB3.cell 0
                have c1 : World.cell? (wr.drewN (x9 + x8)) ⟨xb, 1, none⟩ = some (.int .i64 0) := hB3.cell 1
                have f0 : World.frozen? (wr.drewN (x9 + x8)) ⟨xb, 0, none⟩ = false := hB3.frozen 0
                have f1 : World.frozen? (wr.drewN (x9 + x8)) ⟨xb, 1, none⟩ = false := hB3.frozen 1
                clear hW hB3
                go_wp2_with fail
                refine bodyPost_ret (results_three Tryd.results44 _ _ xb _ _ _ rfl rfl rfl HF.out.2.2 (by kernel_rfl)) rfl ?_
                exact ⟨by rw [HT.out]; rfl, HF.out.1, HF.out.2.1⟩
              · have hW : whomI me rs q wd wu = au := by rw [HWH.out, if_pos hwd1, if_pos ⟨HA1.out, hwu1⟩]
                have HT : Hid (tickA me rs q wd wu = (au, wd, wu, true)) := show _ = _ from by unfold tickA; rw [if_neg HZN.out, if_neg (by rw [hW]; omega), hW]
                have HRR : Hid (rtickN me n A rs q wd wu = clr n A) := show _ = _ from by unfold rtickN; rw [if_pos (show tickCl me rs q wd wu from Or.inr (by rw [hW]; omega))]
                clear hW
                go_wp2_with fail
                refine Calls.mono (HCL.out (wr.drewN (x9 + x8)) (below_drewN HBW.out _)) ?_
                rintro e9 w7 ⟨rfl, hG3, hC3⟩
                have hB3 : Blk w7 xb #[.int .i64 0, .int .i64 0] 36 := hC3.blk (show Blk (wr.drewN (x9 + x8)) xb #[.int .i64 0, .int .i64 0] 36 from HXW.out) (fun e => (HG.out.more (below_drewN HBW.out _)).own_ne (show Blk (wr.drewN (x9 + x8)) xb #[.int .i64 0, .int .i64 0] 36 from HXW.out) (by decide) e)
                have HF : Hid _ := HFIN.out au wd wu true _ w7 HT.out HRR.out hG3 ((Chg.ofBelow _ (below_drewN HBW.out _)).trans hC3 (fun _ _ e => e)) hB3
                have c0 : w7.cell? ⟨xb, 0, none⟩ = some (.int .i64 0) := hB3.cell 0
                have c1 : w7.cell? ⟨xb, 1, none⟩ = some (.int .i64 0) := hB3.cell 1
                have f0 : w7.frozen? ⟨xb, 0, none⟩ = false := hB3.frozen 0
                have f1 : w7.frozen? ⟨xb, 1, none⟩ = false := hB3.frozen 1
                clear hG3 hC3 hB3
                first | go_end0 | skip
                go_wp2_with fail
                refine bodyPost_ret (results_three Tryd.results44 _ _ xb _ _ _ rfl rfl rfl HF.out.2.2 (by kernel_rfl)) rfl ?_
                exact ⟨by rw [HT.out]; rfl, HF.out.1, HF.out.2.1⟩
            · have HA1 : Hid (ad = -1) := had1
              clear had1
              have hW : whomI me rs q wd wu = -1 := by rw [HWH.out, if_pos hwd1, if_neg (show ¬ (ad = -1 ∧ 0 < wu) from fun h => hwu1 h.2)]; exact HA1.out
              have HT : Hid (tickA me rs q wd wu = (0, 0, 0, false)) := show _ = _ from by unfold tickA; rw [if_neg HZN.out, if_pos hW]
              have HRR : Hid (rtickN me n A rs q wd wu = A) := show _ = _ from by unfold rtickN; rw [if_neg (show ¬ tickCl me rs q wd wu from fun h => h.elim HZN.out (fun h => h hW))]
              have hB3 : Blk (wr.drewN x9) xb #[.int .i64 0, .int .i64 0] 36 := HXW.out
              have HF : Hid _ := HFIN.out 0 0 0 false _ (wr.drewN x9) HT.out HRR.out (HG.out.more (below_drewN HBW.out _)) (Chg.ofBelow _ (below_drewN HBW.out _)) hB3
              have c0 : World.cell? (wr.drewN x9) ⟨xb, 0, none⟩ = some (.int .i64 0) := hB3.cell 0
              have c1 : World.cell? (wr.drewN x9) ⟨xb, 1, none⟩ = some (.int .i64 0) := hB3.cell 1
              have f0 : World.frozen? (wr.drewN x9) ⟨xb, 0, none⟩ = false := hB3.frozen 0
              have f1 : World.frozen? (wr.drewN x9) ⟨xb, 1, none⟩ = false := hB3.frozen 1
              clear hW hB3
              go_wp2_with fail
              refine bodyPost_ret (results_three Tryd.results44 _ _ xb _ _ _ rfl rfl rfl HF.out.2.2 (by kernel_rfl)) rfl ?_
              exact ⟨by rw [HT.out]; rfl, HF.out.1, HF.out.2.1⟩
          · have hW : whomI me rs q wd wu = ad := by rw [HWH.out, if_pos hwd1, if_neg (show ¬ (ad = -1 ∧ 0 < wu) from fun h => by omega)]
            have HT : Hid (tickA me rs q wd wu = (ad, wd, wu, true)) := show _ = _ from by unfold tickA; rw [if_neg HZN.out, if_neg (by rw [hW]; omega), hW]
            have HRR : Hid (rtickN me n A rs q wd wu = clr n A) := show _ = _ from by unfold rtickN; rw [if_pos (show tickCl me rs q wd wu from Or.inr (by rw [hW]; omega))]
            clear hW
            go_wp2_with fail
            refine Calls.mono (HCL.out (wr.drewN x9) (below_drewN HBW.out _)) ?_
            rintro e9 w7 ⟨rfl, hG3, hC3⟩
            have hB3 : Blk w7 xb #[.int .i64 0, .int .i64 0] 36 := hC3.blk (show Blk (wr.drewN x9) xb #[.int .i64 0, .int .i64 0] 36 from HXW.out) (fun e => (HG.out.more (below_drewN HBW.out _)).own_ne (show Blk (wr.drewN x9) xb #[.int .i64 0, .int .i64 0] 36 from HXW.out) (by decide) e)
            have HF : Hid _ := HFIN.out ad wd wu true _ w7 HT.out HRR.out hG3 ((Chg.ofBelow _ (below_drewN HBW.out _)).trans hC3 (fun _ _ e => e)) hB3
            have c0 : w7.cell? ⟨xb, 0, none⟩ = some (.int .i64 0) := hB3.cell 0
            have c1 : w7.cell? ⟨xb, 1, none⟩ = some (.int .i64 0) := hB3.cell 1
            have f0 : w7.frozen? ⟨xb, 0, none⟩ = false := hB3.frozen 0
            have f1 : w7.frozen? ⟨xb, 1, none⟩ = false := hB3.frozen 1
            clear hG3 hC3 hB3
            first | go_end0 | skip
            go_wp2_with fail
            refine bodyPost_ret (results_three Tryd.results44 _ _ xb _ _ _ rfl rfl rfl HF.out.2.2 (by kernel_rfl)) rfl ?_
            exact ⟨by rw [HT.out]; rfl, HF.out.1, HF.out.2.1⟩
end Go.Proofs.YtjmbhaoehfdpoaaDoor
