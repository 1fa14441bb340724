import Derived.Test.YtbjlaloofpdbfaaJoinR
namespace Go.Proofs.Ytbjlaloofpdbfaa
open Go.RowKit Go.PlainAid
set_option linter.unusedVariables false
set_option linter.unusedSimpArgs false
theorem flatA_length : ∀ es : List ((Int × Int) × OpA), (flatA es).length = es.length * 6
  | [] => rfl
  | e :: t => by
    have := flatA_length t
    simp only [flatA, List.flatMap_cons, List.length_append, List.length_cons] at this ⊢
    rw [this]
    simp [askcs]
    omega
theorem flatA_take : ∀ (es : List ((Int × Int) × OpA)) (i : Nat), flatA (es.take i) = (flatA es).take (i * 6)
  | [], i => by simp [flatA]
  | x :: t, 0 => by simp [flatA]
  | x :: t, i + 1 => by
    have ih := flatA_take t i
    simp only [flatA, List.take_succ_cons, List.flatMap_cons] at ih ⊢
    rw [ih, show (i + 1) * 6 = (askcs x).length + i * 6 by simp [askcs]; omega, List.take_length_add_append]
theorem flatA_drop : ∀ (es : List ((Int × Int) × OpA)) (i : Nat), flatA (es.drop i) = (flatA es).drop (i * 6)
  | [], i => by simp [flatA]
  | x :: t, 0 => by simp [flatA]
  | x :: t, i + 1 => by
    have ih := flatA_drop t i
    simp only [flatA, List.drop_succ_cons, List.flatMap_cons] at ih ⊢
    rw [ih, show (i + 1) * 6 = (askcs x).length + i * 6 by simp [askcs]; omega, List.drop_length_add_append]
theorem askcs_one {p : (Int × Int) × OpA} {u : Value} (h : u ∈ askcs p) : u.oneCell' = true := by
  simp [askcs] at h
  rcases h with rfl | rfl | rfl | rfl | rfl | rfl <;> rfl
theorem flatA_one {es : List ((Int × Int) × OpA)} {u : Value} (h : u ∈ flatA es) : u.oneCell' = true := by
  obtain ⟨p, _, hp⟩ := List.mem_flatMap.1 h
  exact askcs_one hp
theorem RPost.setW {B rb : Nat} {kl wl wl' : Value} {me rep per : Int} {KL : List (List UInt8)} {WL WL' : List ((Int × Int) × OpA)} {w wx : World} (h : RT B rb kl wl me rep per KL WL w) (hb : Below w.heap.size w wx) (ho : wx.ownsRow B 108 6 wl' WL'.length (flatA WL')) (hnew : ∀ b, wl'.ownBlock = some b → w.heap.size ≤ b) : RPost B rb kl wl me rep per KL WL' w (wx.setCell ⟨rb, 4, none⟩ wl') := by
  have h1 := h.more hb
  have hs : Chg (fun b => b = rb) wx (wx.setCell ⟨rb, 4, none⟩ wl') := ⟨rfl, rfl, rfl, by simp [World.setCell], fun j hj hn => Below.heap_setCell _ _ _ _ hn⟩
  refine ⟨(Chg.ofBelow (RA rb kl wl) hb).trans hs (fun _ _ e => Or.inl e), kl, wl', ⟨h1.blk.set 4 wl', ?_, ?_, h1.lo, Nat.le_trans h1.low hs.size⟩, fun b e => ?_⟩
  · exact ownsRow_same h1.kr (fun g e => by
      obtain ⟨cu, hcu⟩ := ownsRow_type h1.kr e
      exact Below.heap_setCell _ _ _ _ (Blk.ne_t (show Blk wx g cu 9 from hcu) h1.blk (by decide)))
  · exact ownsRow_same ho (fun g e => by
      obtain ⟨cu, hcu⟩ := ownsRow_type ho e
      exact Below.heap_setCell _ _ _ _ (Blk.ne_t (show Blk wx g cu 108 from hcu) h1.blk (by decide)))
  · rcases e with e | e | e
    · exact Or.inl (Or.inl e)
    · exact Or.inl (Or.inr (Or.inl e))
    · exact Or.inr (hnew b e)
theorem RPost.box {B rb ob : Nat} {kl wl : Value} {me rep per : Int} {KL : List (List UInt8)} {WL : List ((Int × Int) × OpA)} {w w' w'' : World} {D : Array Value} (h : RPost B rb kl wl me rep per KL WL w w') (hO : Blk w' ob D 39) (hs : Chg (fun b => b = ob) w' w'') (hlo : w.heap.size ≤ ob) : RPost B rb kl wl me rep per KL WL w w'' := by
  obtain ⟨hc, kl', wl', hR, hn⟩ := h
  refine ⟨hc.trans hs (fun j hj e => by omega), kl', wl', hR.keep hs (fun b e hb => ?_), hn⟩
  subst hb
  rcases e with e | e | e
  · exact Blk.ne_t hR.blk hO (by decide) e.symm
  · exact hR.knb hO (by decide) e
  · exact hR.wnb hO (by decide) e
theorem look_at {c : Int × Int} {p : (Int × Int) × OpA} : ∀ {WL : List ((Int × Int) × OpA)} {q : Nat}, (∀ x ∈ WL.take q, x.1 ≠ c) → WL[q]? = some p → p.1 = c → look c WL = some p.2 ∧ rmK c WL = WL.take q ++ WL.drop (q + 1)
  | [], _, _, h, _ => by simp at h
  | x :: t, 0, _, h, he => by
    simp at h
    subst h
    simp [look, rmK, he]
  | x :: t, q + 1, hpre, h, he => by
    have hx : ¬ c = x.1 := fun e => hpre x (by simp) e.symm
    obtain ⟨h1, h2⟩ := look_at (WL := t) (q := q) (fun y hy => hpre y (by simp [hy])) (by simpa using h) he
    refine ⟨?_, ?_⟩
    · simp only [look, List.find?_cons, hx, decide_false] at h1 ⊢
      exact h1
    · simp only [rmK, List.eraseP_cons, hx, decide_false, cond_false, List.take_succ_cons, List.drop_succ_cons, List.cons_append] at h2 ⊢
      rw [h2]
set_option maxRecDepth 100000 in
set_option maxHeartbeats 1600000 in
theorem rtold_any {B rb : Nat} {kl wl : Value} {me rep per : Int} {KL : List (List UInt8)} {WL : List ((Int × Int) × OpA)} (c : Int × Int) (w : World) (hT : RT B rb kl wl me rep per KL WL w) (hL : WL.length ≤ 100000) :
    Calls Try.prog 57 #[.pointer (some ⟨rb, 0, none⟩), callV c] w fun q w' => q = .returned (.tuple #[opV ((look c WL).getD zop), .bool (look c WL).isSome]) ∧ RPost B rb kl wl me rep per KL (rmK c WL) w w' := by
  obtain ⟨cs, ci⟩ := c
  unfold callV
  simp only
  obtain ⟨X, hX⟩ : ∃ X, X = (w.alloc (.cells #[.int .i64 cs, .int .i64 ci] 37)).alloc (.cells #[.int .i64 0, .string ⟨#[]⟩, .int .i64 0, .int .i64 0] 39) := ⟨_, rfl⟩
  have hb1 : Below w.heap.size w (w.alloc (.cells #[.int .i64 cs, .int .i64 ci] 37)) := (Below.refl _ _).alloc (Nat.le_refl _) _
  have hbX : Below w.heap.size w X := by rw [hX]; exact hb1.alloc hb1.size _
  have hCB : Blk X w.heap.size #[.int .i64 cs, .int .i64 ci] 37 := by
    rw [hX]
    exact Blk.below (heap_alloc_new w _) ((Below.refl _ _).alloc (Nat.le_refl _) _) (by simp)
  have hOB : Blk X (w.heap.size + 1) #[.int .i64 0, .string ⟨#[]⟩, .int .i64 0, .int .i64 0] 39 := by
    rw [hX]
    have := heap_alloc_new (w.alloc (.cells #[.int .i64 cs, .int .i64 ci] 37)) (.cells #[.int .i64 0, .string ⟨#[]⟩, .int .i64 0, .int .i64 0] 39)
    rw [World.size_alloc] at this
    exact this
  have HT : Hid _ := hT
  have HTX : Hid _ := hT.more hbX
  have HBX : Hid _ := hbX
  obtain ⟨cb, hcb⟩ : ∃ cb, cb = w.heap.size := ⟨_, rfl⟩
  obtain ⟨ob, hob⟩ : ∃ ob, ob = w.heap.size + 1 := ⟨_, rfl⟩
  have HCBX : Hid (Blk X cb #[.int .i64 cs, .int .i64 ci] 37) := show Blk X cb #[.int .i64 cs, .int .i64 ci] 37 from by rw [hcb]; exact hCB
  have HOB : Hid (Blk X ob #[.int .i64 0, .string ⟨#[]⟩, .int .i64 0, .int .i64 0] 39) := show Blk X ob #[.int .i64 0, .string ⟨#[]⟩, .int .i64 0, .int .i64 0] 39 from by rw [hob]; exact hOB
  have HOW : Hid (w.heap.size ≤ ob) := show w.heap.size ≤ ob from by omega
  obtain ⟨ao, cap, hv, hcap⟩ := own_slice hT.wr
  have HWV : Hid (wl = .slice ao WL.length cap) := hv
  have HC4 : Hid (∀ wr, Below X.heap.size X wr → wr.cell? ⟨rb, 4, none⟩ = some (.slice ao WL.length cap)) := fun wr hw => by
    have := (HTX.out.more hw).c4
    rw [hv] at this
    exact this
  clear hb1 hbX hCB hOB hT hv
  have hz39 := zero39
  obtain ⟨lr, hlr⟩ : ∃ lr, lr = (look (cs, ci) WL).getD zop := ⟨_, rfl⟩
  obtain ⟨ls, hls⟩ : ∃ ls, ls = (look (cs, ci) WL).isSome := ⟨_, rfl⟩
  obtain ⟨rk, hrk⟩ : ∃ rk, rk = rmK (cs, ci) WL := ⟨_, rfl⟩
  rw [← hlr, ← hls, ← hrk]
  have HLR : Hid _ := hlr
  have HLS : Hid _ := hls
  have HRK : Hid _ := hrk
  clear hlr hls hrk
  go_enter Try.func57, Try.ntmps57
  go_wp2_with fail
  rw [← hX, ← hob, ← hcb]
  clear hX hob hcb hz39
  have H0 : Hid _ := Below.refl X.heap.size X
  go_loopw [6] (fun i wr => ∃ q : Nat, q ≤ WL.length ∧ i = .int .i64 q ∧ (∀ p ∈ WL.take q, p.1 ≠ (cs, ci)) ∧ Below X.heap.size X wr) (fun i _ => WL.length - (intOf i).toNat)
  case atStart => exact ⟨0, Nat.zero_le _, rfl, by simp, H0.out⟩
  case round =>
    obtain ⟨q, hq, rfl, hpre, hbel⟩ := hrel
    have XW := HC4.out wr hbel
    by_cases hlt : q < WL.length
    · obtain ⟨p, hp⟩ : ∃ p, WL[q]? = some p := ⟨WL[q], List.getElem?_eq_getElem hlt⟩
      obtain ⟨g, cap2, hv2, XA⟩ := askAt (HTX.out.more hbel).wr hp
      rw [HWV.out] at hv2
      cases hv2
      have hlti : (q : Int) < (WL.length : Int) := by omega
      have HCB : Hid (Blk wr cb #[.int .i64 cs, .int .i64 ci] 37) := Blk.below HCBX.out hbel (Blk.lt HCBX.out)
      have HBE : Hid _ := hbel
      by_cases he : p.1 = (cs, ci)
      · obtain ⟨hlk, hrm⟩ := look_at hpre hp he
        have HE : Hid (p.1.1 = cs ∧ p.1.2 = ci) := ⟨congrArg Prod.fst he, congrArg Prod.snd he⟩
        have HL1 : Hid (lr = p.2) := show lr = p.2 from by rw [HLR.out, hlk]; rfl
        have HL2 : Hid (ls = true) := show ls = true from by rw [HLS.out, hlk]; rfl
        have HL3 : Hid (rk = WL.take q ++ WL.drop (q + 1)) := show rk = WL.take q ++ WL.drop (q + 1) from by rw [HRK.out, hrm]
        clear hpre hp he hbel hlk hrm
        go_wp2_with fail
        rename_i K hK
        try rw [show ∀ a : Act, a.put none undef = a from fun _ => rfl]
        refine wp_region_mix (fun wq => Below wr.heap.size wr wq) (fun i => i == 99) 99 (by kernel_rfl) rfl (by kernel_rfl) (by kernel_rfl) (by kernel_rfl) ?_
        refine withFrP (N := 58) rfl ?_
        intro f0 F0 hff
        have e0 : f0 0 = Value.pointer (some ⟨rb, 0, none⟩) := hff 0
        have ec : f0 3 = Value.pointer (some ⟨cb, 0, none⟩) := hff 3
        have ei : f0 6 = Value.int .i64 (q : Int) := hff 6
        clear hff
        have HCC : (fun wq => Below wr.heap.size wr wq) (({ wr with drawn := wr.drawn + 1 } : World)) := (Below.drew (Below.refl wr.heap.size wr))
        have V4 : ∀ wq, Below wr.heap.size wr wq → wq.cell? ⟨rb, 4, none⟩ = some (.slice (some ⟨g, 0, none⟩) WL.length cap) := fun wq hw => (hw.cell (p := ⟨rb, 4, none⟩) (World.block_lt_of_cell? wr _ XW)).trans XW
        have VA : ∀ wq, Below wr.heap.size wr wq → AskAt wq g q p := fun wq hw => XA.keep hw
        have U0 : ∀ wq, Below wr.heap.size wr wq → wq.cell? ⟨cb, 0, none⟩ = some (.int .i64 cs) := fun wq hw => (Blk.below HCB.out hw (Blk.lt HCB.out)).cell 0
        have U1 : ∀ wq, Below wr.heap.size wr wq → wq.cell? ⟨cb, 1, none⟩ = some (.int .i64 ci) := fun wq hw => (Blk.below HCB.out hw (Blk.lt HCB.out)).cell 1
        refine lyp F0 rfl HCC rfl (by omega) (wanted_none rfl) (v := Value.pointer (some ⟨rb, 0, none⟩)) (fun wr hwr => by simp only [execOp, (F0.eval 0 (by omega)).trans (show _ = Value.pointer (some ⟨rb, 0, none⟩) from by simp [upd, e0, ec, ei])]; first | rfl | simp [go_sem]) fun F1 => ?_
        refine lyp F1 rfl HCC rfl (by omega) (wanted_none rfl) (v := Value.pointer (some ⟨rb, 0, none⟩)) (fun wr hwr => by simp only [execOp, (F1.eval 18 (by omega)).trans (show _ = Value.pointer (some ⟨rb, 0, none⟩) from by simp [upd, e0, ec, ei])]; simp [go_sem]) fun F2 => ?_
        refine lyp F2 rfl HCC rfl (by omega) (wanted_none rfl) (v := Value.pointer (some ⟨rb, 4, none⟩)) (fun wr hwr => by simp only [execOp, (F2.eval 19 (by omega)).trans (show _ = Value.pointer (some ⟨rb, 0, none⟩) from by simp [upd, e0, ec, ei])]; simp [go_sem]) fun F3 => ?_
        refine lyp F3 rfl HCC rfl (by omega) (wanted_none rfl) (v := Value.slice (some ⟨g, 0, none⟩) WL.length cap) (fun wr hwr => by simp only [execOp, (F3.eval 20 (by omega)).trans (show _ = Value.pointer (some ⟨rb, 4, none⟩) from by simp [upd, e0, ec, ei])]; simp [go_sem, V4 _ hwr]) fun F4 => ?_
        refine lyp F4 rfl HCC rfl (by omega) (wanted_none rfl) (v := Value.int .i64 (q : Int)) (fun wr hwr => by simp only [execOp, (F4.eval 6 (by omega)).trans (show _ = Value.int .i64 (q : Int) from by simp [upd, e0, ec, ei])]; first | rfl | simp [go_sem]) fun F5 => ?_
        refine lyp F5 rfl HCC rfl (by omega) (wanted_none rfl) (v := Value.pointer (some ⟨g, q * 6, none⟩)) (fun wr hwr => by simp only [execOp, (F5.eval 21 (by omega)).trans (show _ = Value.slice (some ⟨g, 0, none⟩) WL.length cap from by simp [upd, e0, ec, ei]), (F5.eval 22 (by omega)).trans (show _ = Value.int .i64 (q : Int) from by simp [upd, e0, ec, ei])]; simp [go_sem, hlt]) fun F6 => ?_
        refine lyp F6 rfl HCC rfl (by omega) (wanted_none rfl) (v := Value.pointer (some ⟨g, q * 6, none⟩)) (fun wr hwr => by simp only [execOp, (F6.eval 23 (by omega)).trans (show _ = Value.pointer (some ⟨g, q * 6, none⟩) from by simp [upd, e0, ec, ei])]; simp [go_sem]) fun F7 => ?_
        refine lyp F7 rfl HCC rfl (by omega) (wanted_none rfl) (v := Value.agg #[.int .i64 p.1.1, .int .i64 p.1.2]) (fun wr hwr => by simp only [execOp, (F7.eval 24 (by omega)).trans (show _ = Value.pointer (some ⟨g, q * 6, none⟩) from by simp [upd, e0, ec, ei])]; simp [go_sem, (VA _ hwr).c0, (VA _ hwr).c1]) fun F8 => ?_
        refine lyp F8 rfl HCC rfl (by omega) (wanted_none rfl) (v := Value.agg #[.int .i64 cs, .int .i64 ci]) (fun wr hwr => by simp only [execOp, (F8.eval 3 (by omega)).trans (show _ = Value.pointer (some ⟨cb, 0, none⟩) from by simp [upd, e0, ec, ei])]; simp [go_sem, U0 _ hwr, U1 _ hwr]) fun F9 => ?_
        refine lyp F9 rfl HCC rfl (by omega) (wanted_none rfl) (v := Value.bool true) (fun wr hwr => by simp only [execOp, (F9.eval 25 (by omega)).trans (show _ = Value.agg #[.int .i64 p.1.1, .int .i64 p.1.2] from by simp [upd, e0, ec, ei]), (F9.eval 26 (by omega)).trans (show _ = Value.agg #[.int .i64 cs, .int .i64 ci] from by simp [upd, e0, ec, ei])]; simp [go_sem, HE.out]) fun F10 => ?_
        refine ⟨fun _ => HCC, ?_⟩
        refine hK _ _ ?_
        clear F0 F1 F2 F3 F4 F5 F6 F7 F8 F9 F10 e0 ec ei V4 VA U0 U1
        simp only [Act.put, List.setIfInBounds_toArray, List.set_cons_succ, List.set_cons_zero]

        obtain ⟨Y, hY⟩ : ∃ Y, Y = ({ wr with drawn := wr.drawn + 1 } : World) := ⟨_, rfl⟩
        rw [← hY] at HCC ⊢
        have HXY : Hid (Below X.heap.size X Y) := HBE.out.trans (HCC.mono HBE.out.size)
        have XWY := HC4.out Y HXY.out
        obtain ⟨y0, y1, y2, y3, y4, y5⟩ := XA.keep HCC
        have HTY : Hid _ := HTX.out.more HXY.out
        have HBY : Hid (Below w.heap.size w Y) := HBX.out.trans (HXY.out.mono HBX.out.size)
        have hal : Below Y.heap.size Y (Y.alloc (.cells #[.int .i64 p.2.k, .string ⟨p.2.n.toArray⟩, .int .i64 p.2.a, .int .i64 p.2.b] 39)) := (Below.refl _ _).alloc (Nat.le_refl _) _
        have HNB : Hid (Blk (Y.alloc (.cells #[.int .i64 p.2.k, .string ⟨p.2.n.toArray⟩, .int .i64 p.2.a, .int .i64 p.2.b] 39)) Y.heap.size #[.int .i64 p.2.k, .string ⟨p.2.n.toArray⟩, .int .i64 p.2.a, .int .i64 p.2.b] 39) := heap_alloc_new Y _
        have hTA := HTY.out.more hal
        have hrow : (Y.alloc (.cells #[.int .i64 p.2.k, .string ⟨p.2.n.toArray⟩, .int .i64 p.2.a, .int .i64 p.2.b] 39)).ownsRow B 108 6 (.slice (some ⟨g, 0, none⟩) WL.length cap) WL.length (flatA WL) := by rw [← HWV.out]; exact hTA.wr
        have HN1 : Hid (∀ j u, (flatA (WL.take q))[j]? = some u → (Y.alloc (.cells #[.int .i64 p.2.k, .string ⟨p.2.n.toArray⟩, .int .i64 p.2.a, .int .i64 p.2.b] 39)).cell? ((⟨g, 0, none⟩ : Addr).add j) = some u) := fun j u hu => by
          rw [flatA_take] at hu
          have hj := (List.getElem?_eq_some_iff.1 hu).1
          rw [List.length_take] at hj
          rw [List.getElem?_take_of_lt (by omega)] at hu
          exact hrow.cells (g := g) rfl j u hu
        have HY1 : Hid ((flatA (WL.take q)).length = q * 6) := show (flatA (WL.take q)).length = q * 6 from by rw [flatA_length, List.length_take]; congr 1; omega
        have c4a : (Y.alloc (.cells #[.int .i64 p.2.k, .string ⟨p.2.n.toArray⟩, .int .i64 p.2.a, .int .i64 p.2.b] 39)).cell? ⟨rb, 4, none⟩ = some (.slice (some ⟨g, 0, none⟩) WL.length cap) := by
          have := hTA.c4
          rw [HWV.out] at this
          exact this
        have HTA : Hid _ := hTA
        have HBA : Hid (Below w.heap.size w (Y.alloc (.cells #[.int .i64 p.2.k, .string ⟨p.2.n.toArray⟩, .int .i64 p.2.a, .int .i64 p.2.b] 39))) := HBY.out.trans (hal.mono HBY.out.size)
        have HSZ1 : Hid (B ≤ (Y.alloc (.cells #[.int .i64 p.2.k, .string ⟨p.2.n.toArray⟩, .int .i64 p.2.a, .int .i64 p.2.b] 39)).heap.size) := hTA.low
        have hle1 : ¬ cap < q := by omega
        have hqc : q ≤ cap := by omega
        have hql : q ≤ WL.length := by omega
        clear hY HCC XW XA hal hTA hrow
        go_wp2_with (first | (at_builtin; go_must (refine wpList_app 95 108 (.agg #[.int .i64 0, .int .i64 0, .int .i64 0, .string ⟨#[]⟩, .int .i64 0, .int .i64 0]) 6 56 Try.underlying95 info108 rfl (by decide) (by decide) rfl _ _ rfl B 0 (.slice none 0 0) [] rfl (World.ownsRow_nil _ _ _ _) ⟨g, 0, none⟩ q cap (flatA (WL.take q)) rfl HY1.out HN1.out (fun u hu => flatA_one hu) (by omega) HSZ1.out ?_)))
        intro v1 w1 ho1 hg1 _
        obtain ⟨ao1, cap1, hv1, _⟩ := own_slice ho1
        subst hv1
        have hb1 : Below (Y.alloc (.cells #[.int .i64 p.2.k, .string ⟨p.2.n.toArray⟩, .int .i64 p.2.a, .int .i64 p.2.b] 39)).heap.size (Y.alloc (.cells #[.int .i64 p.2.k, .string ⟨p.2.n.toArray⟩, .int .i64 p.2.a, .int .i64 p.2.b] 39)) w1 := hg1.chg.below (Nat.le_refl _) (fun k e => by cases e)
        have HT1 : Hid _ := HTA.out.more hb1
        have c41 : w1.cell? ⟨rb, 4, none⟩ = some (.slice (some ⟨g, 0, none⟩) WL.length cap) := by
          have := HT1.out.c4
          rw [HWV.out] at this
          exact this
        have HN1w : Hid (Blk w1 Y.heap.size #[.int .i64 p.2.k, .string ⟨p.2.n.toArray⟩, .int .i64 p.2.a, .int .i64 p.2.b] 39) := Blk.below HNB.out hb1 (Blk.lt HNB.out)
        have HO1w : Hid (Blk w1 ob #[.int .i64 0, .string ⟨#[]⟩, .int .i64 0, .int .i64 0] 39) := Blk.below (Blk.below (Blk.below HOB.out HXY.out (Blk.lt HOB.out)) ((Below.refl _ _).alloc (Nat.le_refl _) _) (Blk.lt (Blk.below HOB.out HXY.out (Blk.lt HOB.out)))) hb1 (Nat.lt_of_lt_of_le (Blk.lt (Blk.below HOB.out HXY.out (Blk.lt HOB.out))) ((Below.refl _ _).alloc (Nat.le_refl _) (.cells #[.int .i64 p.2.k, .string ⟨p.2.n.toArray⟩, .int .i64 p.2.a, .int .i64 p.2.b] 39) : Below Y.heap.size Y _).size)
        have HB1 : Hid (Below w.heap.size w w1) := HBA.out.trans (hb1.mono HBA.out.size)
        have HO1 : Hid (World.ownsRow w1 B 108 6 (.slice ao1 q cap1) q (flatA (WL.take q))) := ho1
        have HA1 : Hid (∀ b, (Value.slice ao1 q cap1).ownBlock = some b → w.heap.size ≤ b) := fun b e => by
          rcases hg1.at' b e with h | h
          · cases h
          · exact Nat.le_trans HBA.out.size h
        have hwq : IntKind.i64.wrap ((q : Int) + 1) = (q : Int) + 1 := by rw [IntKind.wrap_i64]; omega
        have hrow1 : w1.ownsRow B 108 6 (.slice (some ⟨g, 0, none⟩) WL.length cap) WL.length (flatA WL) := by rw [← HWV.out]; exact HT1.out.wr
        obtain ⟨ad2, had2⟩ : ∃ ad2 : Addr, ad2 = if cap = q + 1 then ⟨g, 0, none⟩ else ⟨g, (q + 1) * 6, none⟩ := ⟨_, rfl⟩
        have hif : (if cap = q + 1 then some (⟨g, 0, none⟩ : Addr) else some ⟨g, (q + 1) * 6, none⟩) = some ad2 := by rw [had2]; split <;> rfl
        have HN2 : Hid (∀ j u, (flatA (WL.drop (q + 1)))[j]? = some u → w1.cell? (ad2.add j) = some u) := fun j u hu => by
          rw [flatA_drop, List.getElem?_drop] at hu
          by_cases hc : cap = q + 1
          · have := (List.getElem?_eq_some_iff.1 hu).1
            rw [flatA_length] at this
            omega
          · have := hrow1.cells (g := g) rfl _ u hu
            rw [addr_add, Nat.zero_add] at this
            rw [had2, if_neg hc, addr_add]
            exact this
        clear had2
        have HY2 : Hid ((flatA (WL.drop (q + 1))).length = (WL.length - (q + 1)) * 6) := show (flatA (WL.drop (q + 1))).length = (WL.length - (q + 1)) * 6 from by rw [flatA_length, List.length_drop]
        have HSZ2 : Hid (B ≤ w1.heap.size) := HT1.out.low
        have hq1 : q + 1 ≤ WL.length := by omega
        clear ho1 hg1 hb1 hrow1 XWY c4a
        go_wp2_with (first | (at_builtin; go_must (refine wpList_app 95 108 (.agg #[.int .i64 0, .int .i64 0, .int .i64 0, .string ⟨#[]⟩, .int .i64 0, .int .i64 0]) 6 56 Try.underlying95 info108 rfl (by decide) (by decide) rfl _ _ rfl B q (.slice ao1 q cap1) (flatA (WL.take q)) rfl HO1.out ad2 _ _ (flatA (WL.drop (q + 1))) rfl HY2.out HN2.out (fun u hu => flatA_one hu) (by omega) HSZ2.out ?_)))
        intro v2 w2 ho2 hg2 _
        obtain ⟨ao2, cap2, hv2, _⟩ := own_slice ho2
        subst hv2
        have nk : ∀ (b : Nat) (D : Array Value) (U : TypeId), Blk w1 b D U → U ≠ 108 → ¬ (Value.slice ao1 q cap1).ownBlock = some b := fun b D U hB hU e => by
          obtain ⟨cu, hcu⟩ := ownsRow_type HO1.out e
          exact Blk.ne_t hB (show Blk w1 b cu 108 from hcu) hU rfl
        have hr2 := hg2.chg.blk HT1.out.blk (nk _ _ _ HT1.out.blk (by decide))
        have hN2 := hg2.chg.blk HN1w.out (nk _ _ _ HN1w.out (by decide))
        have hO2 := hg2.chg.blk HO1w.out (nk _ _ _ HO1w.out (by decide))
        have hb2 : Below w.heap.size w w2 := HB1.out.trans (hg2.chg.below HB1.out.size (fun k e => HA1.out k e))
        have hlen2 : q + (WL.length - (q + 1)) = (WL.take q ++ WL.drop (q + 1)).length := by rw [List.length_append, List.length_take, List.length_drop]; congr 1; omega
        have HPO : Hid (RPost B rb kl wl me rep per KL (WL.take q ++ WL.drop (q + 1)) w (w2.setCell ⟨rb, 4, none⟩ (.slice ao2 (q + (WL.length - (q + 1))) cap2))) := show RPost B rb kl wl me rep per KL (WL.take q ++ WL.drop (q + 1)) w (w2.setCell ⟨rb, 4, none⟩ (.slice ao2 (q + (WL.length - (q + 1))) cap2)) from RPost.setW (WL' := WL.take q ++ WL.drop (q + 1)) HT.out hb2 (by rw [flatA_append, ← hlen2]; exact ho2) (fun b e => by
          rcases hg2.at' b e with h | h
          · exact HA1.out b h
          · exact Nat.le_trans HB1.out.size h)
        have fz4 := hr2.frozen 4
        have cz4 : w2.cell? ⟨rb, 4, none⟩ = some (.slice (some ⟨g, 0, none⟩) WL.length cap) := by
          have := hr2.cell 4
          rw [HWV.out] at this
          exact this
        obtain ⟨Z, hZ⟩ : ∃ Z, Z = w2.setCell ⟨rb, 4, none⟩ (.slice ao2 (q + (WL.length - (q + 1))) cap2) := ⟨_, rfl⟩
        have hs4 : Chg (fun b => b = rb) w2 Z := by rw [hZ]; exact ⟨rfl, rfl, rfl, by simp [World.setCell], fun j hj hn => Below.heap_setCell _ _ _ _ hn⟩
        have hN3 := hs4.blk hN2 (hN2.ne_t hr2 (by decide))
        have hO3 := hs4.blk hO2 (hO2.ne_t hr2 (by decide))
        rw [← hZ] at HPO
        obtain ⟨nb, hnb⟩ : ∃ nb, nb = Y.heap.size := ⟨_, rfl⟩
        rw [← hnb] at hN3 hN2
        have HPZ : Hid (w2.setCell ⟨rb, 4, none⟩ (.slice ao2 (q + (WL.length - (q + 1))) cap2) = Z) := hZ.symm
        have n0 : Z.cell? ⟨nb, 0, none⟩ = some (.int .i64 p.2.k) := hN3.cell 0
        have n1 : Z.cell? ⟨nb, 1, none⟩ = some (.string ⟨p.2.n.toArray⟩) := hN3.cell 1
        have n2 : Z.cell? ⟨nb, 2, none⟩ = some (.int .i64 p.2.a) := hN3.cell 2
        have n3 : Z.cell? ⟨nb, 3, none⟩ = some (.int .i64 p.2.b) := hN3.cell 3
        have z0 : Z.cell? ⟨ob, 0, none⟩ = some (.int .i64 0) := hO3.cell 0
        have z1 : Z.cell? ⟨ob, 1, none⟩ = some (.string ⟨#[]⟩) := hO3.cell 1
        have z2 : Z.cell? ⟨ob, 2, none⟩ = some (.int .i64 0) := hO3.cell 2
        have z3 : Z.cell? ⟨ob, 3, none⟩ = some (.int .i64 0) := hO3.cell 3
        have f0 := hO3.frozen 0
        have f1 := hO3.frozen 1
        have f2 := hO3.frozen 2
        have f3 := hO3.frozen 3
        have hno : ¬ nb = ob := by
          have h1 := Blk.lt HOB.out
          have h2 := HXY.out.size
          omega
        have hno' : ¬ ob = nb := fun e => hno e.symm
        obtain ⟨E, hE⟩ : ∃ E, E = (((Z.setCell ⟨ob, 0, none⟩ (.int .i64 p.2.k)).setCell ⟨ob, 1, none⟩ (.string ⟨p.2.n.toArray⟩)).setCell ⟨ob, 2, none⟩ (.int .i64 p.2.a)).setCell ⟨ob, 3, none⟩ (.int .i64 p.2.b) := ⟨_, rfl⟩
        have hBE : Blk E ob #[.int .i64 p.2.k, .string ⟨p.2.n.toArray⟩, .int .i64 p.2.a, .int .i64 p.2.b] 39 := by rw [hE]; exact (((hO3.set 0 (.int .i64 p.2.k)).set 1 (.string ⟨p.2.n.toArray⟩)).set 2 (.int .i64 p.2.a)).set 3 (.int .i64 p.2.b)
        have hsE : Chg (fun b => b = ob) Z E := by
          rw [hE]
          have s1 : ∀ (W : World) (j : Nat) (v : Value), Chg (fun b => b = ob) W (W.setCell ⟨ob, j, none⟩ v) := fun W j v => ⟨rfl, rfl, rfl, by simp [World.setCell], fun k hk hn => Below.heap_setCell _ _ _ _ hn⟩
          exact (((s1 _ _ _).trans (s1 _ _ _) (fun _ _ e => e)).trans (s1 _ _ _) (fun _ _ e => e)).trans (s1 _ _ _) (fun _ _ e => e)
        have HFI : Hid (RPost B rb kl wl me rep per KL (WL.take q ++ WL.drop (q + 1)) w E) := RPost.box HPO.out hO3 hsE HOW.out
        have HBE2 : Hid _ := hBE
        clear ho2 hg2 nk hr2 hN2 hO2 hb2 hlen2 HPO hs4 hN3 hO3 hBE hsE hZ c41
        go_upto_region 9 with fail
        rw [HPZ.out, ← hnb]
        clear fz4 cz4 HPZ hnb
        go_wp2_with fail
        try rw [← hE]
        rw [HL1.out, HL2.out, HL3.out]
        exact bodyPost_ret (results_cell_row2 Try.results57 _ _ ob _ _ rfl rfl HBE2.out (by kernel_rfl)) rfl ⟨rfl, HFI.out⟩
      · have HE : Hid (¬ (p.1.1 = cs ∧ p.1.2 = ci)) := fun h => he (Prod.ext h.1 h.2)
        have HPR : Hid (∀ y ∈ WL.take (q + 1), y.1 ≠ (cs, ci)) := fun y hy => by
          rw [List.take_add_one, hp] at hy
          rcases List.mem_append.1 hy with hy | hy
          · exact hpre y hy
          · simp at hy
            subst hy
            exact he
        clear hpre hp he hbel
        go_wp2_with fail
        rename_i K hK
        try rw [show ∀ a : Act, a.put none undef = a from fun _ => rfl]
        refine wp_region_mix (fun wq => Below wr.heap.size wr wq) (fun i => i == 99) 99 (by kernel_rfl) rfl (by kernel_rfl) (by kernel_rfl) (by kernel_rfl) ?_
        refine withFrP (N := 58) rfl ?_
        intro f0 F0 hff
        have e0 : f0 0 = Value.pointer (some ⟨rb, 0, none⟩) := hff 0
        have ec : f0 3 = Value.pointer (some ⟨cb, 0, none⟩) := hff 3
        have ei : f0 6 = Value.int .i64 (q : Int) := hff 6
        clear hff
        have HCC : (fun wq => Below wr.heap.size wr wq) (({ wr with drawn := wr.drawn + 1 } : World)) := (Below.drew (Below.refl wr.heap.size wr))
        have V4 : ∀ wq, Below wr.heap.size wr wq → wq.cell? ⟨rb, 4, none⟩ = some (.slice (some ⟨g, 0, none⟩) WL.length cap) := fun wq hw => (hw.cell (p := ⟨rb, 4, none⟩) (World.block_lt_of_cell? wr _ XW)).trans XW
        have VA : ∀ wq, Below wr.heap.size wr wq → AskAt wq g q p := fun wq hw => XA.keep hw
        have U0 : ∀ wq, Below wr.heap.size wr wq → wq.cell? ⟨cb, 0, none⟩ = some (.int .i64 cs) := fun wq hw => (Blk.below HCB.out hw (Blk.lt HCB.out)).cell 0
        have U1 : ∀ wq, Below wr.heap.size wr wq → wq.cell? ⟨cb, 1, none⟩ = some (.int .i64 ci) := fun wq hw => (Blk.below HCB.out hw (Blk.lt HCB.out)).cell 1
        refine lyp F0 rfl HCC rfl (by omega) (wanted_none rfl) (v := Value.pointer (some ⟨rb, 0, none⟩)) (fun wr hwr => by simp only [execOp, (F0.eval 0 (by omega)).trans (show _ = Value.pointer (some ⟨rb, 0, none⟩) from by simp [upd, e0, ec, ei])]; first | rfl | simp [go_sem]) fun F1 => ?_
        refine lyp F1 rfl HCC rfl (by omega) (wanted_none rfl) (v := Value.pointer (some ⟨rb, 0, none⟩)) (fun wr hwr => by simp only [execOp, (F1.eval 18 (by omega)).trans (show _ = Value.pointer (some ⟨rb, 0, none⟩) from by simp [upd, e0, ec, ei])]; simp [go_sem]) fun F2 => ?_
        refine lyp F2 rfl HCC rfl (by omega) (wanted_none rfl) (v := Value.pointer (some ⟨rb, 4, none⟩)) (fun wr hwr => by simp only [execOp, (F2.eval 19 (by omega)).trans (show _ = Value.pointer (some ⟨rb, 0, none⟩) from by simp [upd, e0, ec, ei])]; simp [go_sem]) fun F3 => ?_
        refine lyp F3 rfl HCC rfl (by omega) (wanted_none rfl) (v := Value.slice (some ⟨g, 0, none⟩) WL.length cap) (fun wr hwr => by simp only [execOp, (F3.eval 20 (by omega)).trans (show _ = Value.pointer (some ⟨rb, 4, none⟩) from by simp [upd, e0, ec, ei])]; simp [go_sem, V4 _ hwr]) fun F4 => ?_
        refine lyp F4 rfl HCC rfl (by omega) (wanted_none rfl) (v := Value.int .i64 (q : Int)) (fun wr hwr => by simp only [execOp, (F4.eval 6 (by omega)).trans (show _ = Value.int .i64 (q : Int) from by simp [upd, e0, ec, ei])]; first | rfl | simp [go_sem]) fun F5 => ?_
        refine lyp F5 rfl HCC rfl (by omega) (wanted_none rfl) (v := Value.pointer (some ⟨g, q * 6, none⟩)) (fun wr hwr => by simp only [execOp, (F5.eval 21 (by omega)).trans (show _ = Value.slice (some ⟨g, 0, none⟩) WL.length cap from by simp [upd, e0, ec, ei]), (F5.eval 22 (by omega)).trans (show _ = Value.int .i64 (q : Int) from by simp [upd, e0, ec, ei])]; simp [go_sem, hlt]) fun F6 => ?_
        refine lyp F6 rfl HCC rfl (by omega) (wanted_none rfl) (v := Value.pointer (some ⟨g, q * 6, none⟩)) (fun wr hwr => by simp only [execOp, (F6.eval 23 (by omega)).trans (show _ = Value.pointer (some ⟨g, q * 6, none⟩) from by simp [upd, e0, ec, ei])]; simp [go_sem]) fun F7 => ?_
        refine lyp F7 rfl HCC rfl (by omega) (wanted_none rfl) (v := Value.agg #[.int .i64 p.1.1, .int .i64 p.1.2]) (fun wr hwr => by simp only [execOp, (F7.eval 24 (by omega)).trans (show _ = Value.pointer (some ⟨g, q * 6, none⟩) from by simp [upd, e0, ec, ei])]; simp [go_sem, (VA _ hwr).c0, (VA _ hwr).c1]) fun F8 => ?_
        refine lyp F8 rfl HCC rfl (by omega) (wanted_none rfl) (v := Value.agg #[.int .i64 cs, .int .i64 ci]) (fun wr hwr => by simp only [execOp, (F8.eval 3 (by omega)).trans (show _ = Value.pointer (some ⟨cb, 0, none⟩) from by simp [upd, e0, ec, ei])]; simp [go_sem, U0 _ hwr, U1 _ hwr]) fun F9 => ?_
        refine lyp F9 rfl HCC rfl (by omega) (wanted_none rfl) (v := Value.bool false) (fun wr hwr => by simp only [execOp, (F9.eval 25 (by omega)).trans (show _ = Value.agg #[.int .i64 p.1.1, .int .i64 p.1.2] from by simp [upd, e0, ec, ei]), (F9.eval 26 (by omega)).trans (show _ = Value.agg #[.int .i64 cs, .int .i64 ci] from by simp [upd, e0, ec, ei])]; simp [go_sem, HE.out]; first | done | (intro h1 h2; exact HE.out ⟨h1, h2⟩)) fun F10 => ?_
        refine ⟨fun _ => HCC, ?_⟩
        refine hK _ _ ?_
        clear F0 F1 F2 F3 F4 F5 F6 F7 F8 F9 F10 e0 ec ei V4 VA U0 U1
        simp only [Act.put, List.setIfInBounds_toArray, List.set_cons_succ, List.set_cons_zero]

        have HB2 : Hid (Below X.heap.size X ({ wr with drawn := wr.drawn + 1 } : World)) := HBE.out.trans (HCC.mono HBE.out.size)
        clear HCC XW XA
        go_wp2_with fail
        go_roundw
        case rel => exact ⟨q + 1, by omega, by go_num, HPR.out, HB2.out⟩
        case measure => simp [intOf]; omega
    · have hnot : ¬ (q : Int) < (WL.length : Int) := by omega
      have hno : ∀ y ∈ WL, y.1 ≠ (cs, ci) := by
        rw [List.take_of_length_le (by omega)] at hpre
        exact hpre
      have hlf := look_none_iff hno
      have HL1 : Hid (lr = zop) := show lr = zop from by
        rw [HLR.out]
        cases hq2 : look (cs, ci) WL with
        | none => rfl
        | some x => rw [hq2] at hlf; cases hlf
      have HL2 : Hid (ls = false) := show ls = false from by rw [HLS.out]; exact hlf
      have HL3 : Hid (rk = WL) := show rk = WL from by rw [HRK.out]; exact rmK_none hlf
      have hO := Blk.below HOB.out hbel (Blk.lt HOB.out)
      have f0 := hO.frozen 0
      have f1 := hO.frozen 1
      have f2 := hO.frozen 2
      have f3 := hO.frozen 3
      have z0 : wr.cell? ⟨ob, 0, none⟩ = some (.int .i64 0) := hO.cell 0
      have z1 : wr.cell? ⟨ob, 1, none⟩ = some (.string ⟨#[]⟩) := hO.cell 1
      have z2 : wr.cell? ⟨ob, 2, none⟩ = some (.int .i64 0) := hO.cell 2
      have z3 : wr.cell? ⟨ob, 3, none⟩ = some (.int .i64 0) := hO.cell 3
      obtain ⟨Y, hY⟩ : ∃ Y, Y = (((wr.setCell ⟨ob, 0, none⟩ (.int .i64 0)).setCell ⟨ob, 1, none⟩ (.string ⟨#[]⟩)).setCell ⟨ob, 2, none⟩ (.int .i64 0)).setCell ⟨ob, 3, none⟩ (.int .i64 0) := ⟨_, rfl⟩
      have hBY : Blk Y ob #[.int .i64 0, .string ⟨#[]⟩, .int .i64 0, .int .i64 0] 39 := by rw [hY]; exact (((hO.set 0 (.int .i64 0)).set 1 (.string ⟨#[]⟩)).set 2 (.int .i64 0)).set 3 (.int .i64 0)
      have hs : Chg (fun b => b = ob) wr Y := by
        rw [hY]
        have s1 : ∀ (W : World) (j : Nat) (v : Value), Chg (fun b => b = ob) W (W.setCell ⟨ob, j, none⟩ v) := fun W j v => ⟨rfl, rfl, rfl, by simp [World.setCell], fun k hk hn => Below.heap_setCell _ _ _ _ hn⟩
        exact (((s1 _ _ _).trans (s1 _ _ _) (fun _ _ e => e)).trans (s1 _ _ _) (fun _ _ e => e)).trans (s1 _ _ _) (fun _ _ e => e)
      have HBY : Hid _ := hBY
      have hbw : Below w.heap.size w wr := HBX.out.trans (hbel.mono HBX.out.size)
      have HF : Hid (Below w.heap.size w Y) := hbw.trans (hs.below hbw.size (fun k e => by rw [e]; exact HOW.out))
      clear hpre hbel hno hlf hO hs hbw
      go_wp2_with fail
      try rw [← hY]
      rw [HL1.out, HL2.out, HL3.out]
      exact bodyPost_ret (results_cell_row2 Try.results57 _ _ ob _ _ rfl rfl HBY.out (by kernel_rfl)) rfl ⟨rfl, RPost.same HT.out HF.out⟩
end Go.Proofs.Ytbjlaloofpdbfaa
