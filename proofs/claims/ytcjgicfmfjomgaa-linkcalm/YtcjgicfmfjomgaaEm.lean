import Derived.Test.YtcjgicfmfjomgaaEm0
namespace Go.Proofs.Ytcjgicfmfjomgaa
open Go.RowKit Go.PlainAid Go.MapKept Go.Conc
set_option linter.unusedVariables false
set_option linter.unusedSimpArgs false
/-- A box that is being emptied. -/
structure ES (L lb cb mb M : Nat) (uv0 vo : Value) (x : LV) (lo : List Sgm) (w : World) (uv vd : Value) (l : List Sgm) (i : Nat) (wr : World) : Prop where
  lm : LM L lb cb mb uv (x.moved i) wr
  sl : SL M vd l wr
  pr : l.map Sgm.pr = lo.map Sgm.pr ++ tell x.me x.peer (x.next - 1) (x.acked + (x.under.length : Int) + 1) ((x.box.take i).map Dv.s)
  ap : ∀ k, slown vd l k → ¬ lown lb cb mb uv (x.moved i) k
  ch : Chg (fun k => lown lb cb mb uv0 x k ∨ vo.ownBlock = some k) w wr
  nl : ∀ k, lown lb cb mb uv (x.moved i) k → lown lb cb mb uv0 x k ∨ w.heap.size ≤ k
  ns : ∀ k, slown vd l k → slown vo lo k ∨ w.heap.size ≤ k
  nv : ∀ k, vd.ownBlock = some k → vo.ownBlock = some k ∨ w.heap.size ≤ k
def EI (L lb cb mb M : Nat) (uv0 vo : Value) (x : LV) (lo : List Sgm) (w : World) (a : Act) (wr : World) : Prop := ∃ vd i uv l, i ≤ x.box.length ∧ ES L lb cb mb M uv0 vo x lo w uv vd l i wr ∧ ∃ u2 u3 u4 u5 u6 u7 u8 u9 u10 u11 u12 u13 u14 u15 u16 u17 u18 u19 u20 u21 u22 u23 u24 u25 u26 u27 u28 u29 u30 u31 u32 : Value, a = { tmps := #[.pointer (some ⟨lb, 0, none⟩), vd, u2, u3, u4, u5, u6, u7, u8, u9, u10, u11, u12, u13, u14, u15, u16, u17, u18, u19, u20, u21, u22, u23, u24, u25, u26, u27, u28, u29, u30, u31, u32], defers := [] }
def boxLen (cb : Nat) (w : World) : Nat := match w.heap[cb]? with
  | some (.chan _ buf _ _ _ _) => buf.size
  | _ => 0
theorem ES.step {L lb cb mb M : Nat} {uv0 vo : Value} {x : LV} {lo : List Sgm} {w : World} {uv vd : Value} {l : List Sgm} {i : Nat} {wr : World} (h : ES L lb cb mb M uv0 vo x lo w uv vd l i wr) (hMw : M ≤ w.heap.size) (hl : l.length ≤ 100000) {uv2 v2 : Value} {w3 w5 : World} {d : Dv} (hd : x.box[i]? = some d)
    (hM : LM L lb cb mb uv2 (x.moved (i + 1)) w3) (hst : LStp lb cb mb uv uv2 (x.moved i) (x.moved (i + 1)) wr w3) (hb : Below w3.heap.size w3 w5) (hr : w5.ownsRow w3.heap.size 5 1 v2 d.s.length (d.s.map B)) :
    ∃ v6 w6, (∀ ty, (Builtin.append_ #[33, 33] ty #[vd, .slice (some ⟨w5.heap.size, 0, none⟩) 1 1]).run Try.prog (w5.alloc (.cells #[.int .i64 x.me, .int .i64 x.peer, .int .i64 (x.acked + ((x.under.length + (i + 1) : Nat) : Int)), .int .i64 (x.next - 1), v2] 45)) = .ok v6 w6) ∧
      ES L lb cb mb M uv0 vo x lo w uv2 v6 (l ++ [⟨x.me, x.peer, x.acked + ((x.under.length + (i + 1) : Nat) : Int), x.next - 1, ⟨v2, d.s⟩⟩]) (i + 1) w6 ∧ boxLen cb w6 = x.box.length - (i + 1) := by
  have hil : i < x.box.length := (List.getElem?_eq_some_iff.1 hd).1
  have hsw := h.ch.size
  have hs3 := hst.1.size
  have hs5 := hb.size
  have hS3 : SL M vd l w3 := h.sl.keep hst.1 h.ap
  have hS5 : SL M vd l w5 := hS3.more hb
  have hM5 := hM.more hb
  obtain ⟨v6, w6, hr6, hS6, hg6⟩ := hS5.app (by omega) hl ⟨x.me, x.peer, x.acked + ((x.under.length + (i + 1) : Nat) : Int), x.next - 1, ⟨v2, d.s⟩⟩ (ownsRow_mono hr (by omega)) (fun e he k e1 e2 => by
    have h1 := (ownsRow_lt (h.sl.d e he) e1).2
    have h2 := (ownsRow_lt hr e2).1
    omega)
  have hvl : ∀ k, vd.ownBlock = some k → ¬ lown lb cb mb uv2 (x.moved (i + 1)) k := fun k e hk => by
    rcases hst.2 k hk with q | q
    · exact h.ap k (.inl e) q
    · have := (ownsRow_lt h.sl.r e).2; omega
  have hM6 : LM L lb cb mb uv2 (x.moved (i + 1)) w6 := hM5.keep hg6.chg (fun k h1 h2 => hvl k h2 h1)
  refine ⟨v6, w6, hr6, ⟨hM6, hS6, ?_, fun k hk hk2 => ?_, ?_, fun k hk => ?_, fun k hk => ?_, fun k hk => ?_⟩, ?_⟩
  · rw [List.map_append, h.pr, List.take_add_one, hd]
    simp only [Option.toList_some, List.map_append, List.map_cons, List.map_nil, tell_app, List.length_map, List.length_take, List.append_assoc]
    have hmin : min i x.box.length = i := by omega
    rw [hmin]
    congr 3
    show (x.me, x.peer, x.acked + ((x.under.length + (i + 1) : Nat) : Int), x.next - 1, d.s) = _
    congr 3
    omega
  · have hk3 := (hM.lt hk2).2
    rcases hk with q | ⟨g, hg, q⟩
    · rcases hg6.at' k q with q | q
      · exact hvl k q hk2
      · omega
    · rcases List.mem_append.1 hg with hg | hg
      · rcases hst.2 k hk2 with q2 | q2
        · exact h.ap k (.inr ⟨g, hg, q⟩) q2
        · have := (ownsRow_lt (h.sl.d g hg) q).2; omega
      · rw [List.mem_singleton.1 hg] at q
        have := (ownsRow_lt hr q).1
        omega
  · have a1 := h.ch.trans hst.1 (fun k hk hq => by
      rcases h.nl k hq with q | q
      · exact Or.inl q
      · omega)
    have a2 := a1.trans (Chg.ofBelow (fun _ => False) hb) (fun _ _ e => e.elim)
    exact a2.trans hg6.chg (fun k hk hq => by
      rcases h.nv k hq with q | q
      · exact Or.inr q
      · omega)
  · rcases hst.2 k hk with q | q
    · exact h.nl k q
    · exact Or.inr (by omega)
  · rcases hk with q | ⟨g, hg, q⟩
    · rcases hg6.at' k q with q | q
      · exact h.ns k (.inl q)
      · exact Or.inr (by omega)
    · rcases List.mem_append.1 hg with hg | hg
      · exact h.ns k (.inr ⟨g, hg, q⟩)
      · rw [List.mem_singleton.1 hg] at q
        have := (ownsRow_lt hr q).1
        exact Or.inr (by omega)
  · rcases hg6.at' k hk with q | q
    · exact h.nv k q
    · exact Or.inr (by omega)
  · obtain ⟨s, r, hc⟩ := hM6.c
    unfold boxLen
    rw [hc]
    simp [LV.moved]
set_option maxRecDepth 100000 in
set_option maxHeartbeats 6400000 in
theorem empty_any {L lb cb mb M : Nat} {uv vo : Value} {x : LV} {lo : List Sgm} (w : World) (h : LM L lb cb mb uv x w) (hS : SL M vo lo w) (hap : ∀ k, slown vo lo k → ¬ lown lb cb mb uv x k) (hM : M ≤ w.heap.size) (hlo : lo.length ≤ 2000) (hn : 1 ≤ x.next ∧ x.next ≤ 1099511627777) (hb : 0 ≤ x.acked ∧ x.acked ≤ 1099511627776) (hu : x.under.length ≤ 500) (hbx : x.box.length ≤ 500) (hds : ∀ d ∈ x.box, d.s.length ≤ 1000000) :
    Calls Try.prog 29 #[.pointer (some ⟨lb, 0, none⟩), vo] w fun e w' => ∃ v uv' l, e = .returned v ∧ ES L lb cb mb M uv vo x lo w uv' v l x.box.length w' := by
  have HE0 : Hid (ES L lb cb mb M uv vo x lo w uv vo lo 0 w) := ⟨by rw [moved_0]; exact h, hS, by simp [tell], by rw [moved_0]; exact hap, Chg.refl _ _, (fun k hk => by rw [moved_0] at hk; exact Or.inl hk), (fun k hk => Or.inl hk), (fun k hk => Or.inl hk)⟩
  have HDS : Hid (∀ d ∈ x.box, d.s.length ≤ 1000000) := hds
  have HMW : Hid (M ≤ w.heap.size) := hM
  obtain ⟨voo, voc, hvo, _⟩ := own_slice hS.r
  obtain ⟨hb1, hb2⟩ := id hb
  obtain ⟨hn1, hn2⟩ := id hn
  clear h hS hap hds hM
  refine calls_of_wpN Try.func29 rfl ?_
  simp only [Try.ntmps29, List.size_toArray, List.length_cons, List.length_nil, Nat.reduceAdd, Nat.reduceSub, Array.replicate_succ, Array.replicate_zero, List.push_toArray, List.append_toArray, List.nil_append, List.cons_append]
  refine wpN_seq (wpN_of ?_)
  go_wp2_with fail
  refine wpN_block ?_
  refine wpN_loop (EI L lb cb mb M uv vo x lo w) (fun _ wr => boxLen cb wr) ?_ ?_
  · exact ⟨vo, 0, uv, lo, Nat.zero_le _, HE0.out, _, _, _, _, _, _, _, _, _, _, _, _, _, _, _, _, _, _, _, _, _, _, _, _, _, _, _, _, _, _, _, rfl⟩
  · rintro a wr ⟨vd, i, uv1, l, hi, hE, u2, u3, u4, u5, u6, u7, u8, u9, u10, u11, u12, u13, u14, u15, u16, u17, u18, u19, u20, u21, u22, u23, u24, u25, u26, u27, u28, u29, u30, u31, u32, rfl⟩
    have HE : Hid _ := hE
    clear HE0 hE
    have c4 : wr.cell? ⟨lb, 4, none⟩ = some (.chan (some cb)) := HE.out.lm.b.cell 4
    refine wpN_block ?_
    refine wpN_seq (wpN_of ?_)
    go_wp2_with fail
    obtain ⟨s, r, hc⟩ := HE.out.lm.c
    have hc' : wr.heap[cb]? = some (.chan x.win ((x.box.drop i).map Dv.v).toArray false s r false) := hc
    clear hc
    by_cases hlt : i < x.box.length
    · obtain ⟨d, hd⟩ : ∃ d, x.box[i]? = some d := ⟨x.box[i], List.getElem?_eq_getElem hlt⟩
      obtain ⟨uv2, w2, hr2, hc6, hf6, hM2, hst2, hdm, uo2, uc2, hu2⟩ := HE.out.lm.shift hd (by omega) (by omega) (s := s) (r := r + 1)
      have hdrop : (x.box.drop i).map Dv.v = d.v :: (x.box.drop (i + 1)).map Dv.v := by
        rw [List.drop_eq_getElem_cons hlt, List.map_cons]
        congr 2
        rw [List.getElem?_eq_getElem hlt] at hd
        exact Option.some.inj hd
      obtain ⟨Y, hY⟩ : ∃ Y, Y = wr.setChan cb x.win ((x.box.drop (i + 1)).map Dv.v).toArray false s (r + 1) false := ⟨_, rfl⟩
      have hYs : Y.heap.size = wr.heap.size := by rw [hY]; simp [World.setChan]
      rw [← hY, ← hYs] at hr2
      have cY6 : Y.cell? ⟨lb, 6, none⟩ = some uv1 := by
        have hBY : Blk Y lb (lbox (x.moved i) cb mb uv1) 77 := by rw [hY]; exact (setChan_chg _ _ _ _ _ _ _ _).blk HE.out.lm.b (fun e => HE.out.lm.ne_lb.1 e.symm)
        exact hBY.cell 6
      obtain ⟨uo1, uc1, hu1, _⟩ := own_slice HE.out.lm.u
      obtain ⟨un, hun⟩ : ∃ un, un = (x.moved i).under.length := ⟨_, rfl⟩
      rw [← hun] at hu1
      obtain ⟨dao, dc, hdv, _⟩ := own_slice (HE.out.lm.dt d hdm)
      have hdb : d.s.length ≤ 1000000 := HDS.out d (List.mem_of_getElem? hd)
      have HD : Hid (x.box[i]? = some d) := hd
      have HDV : Hid (d.v = .slice dao d.s.length dc) := hdv
      have hul : (x.moved (i + 1)).under.length = x.under.length + (i + 1) := by
        show (x.under ++ x.box.take (i + 1)).length = _
        simp
        omega
      have HGO : Hid _ := gone_any _ hM2 (x := x.moved (i + 1)) ⟨hb1, hb2⟩ (by rw [hul]; omega)
      rw [hul] at HGO
      have HM2 : Hid (LM L lb cb mb uv2 (x.moved (i + 1)) (w2.setCell ⟨lb, 6, none⟩ uv2)) := hM2
      have HST : Hid (LStp lb cb mb uv1 uv2 (x.moved i) (x.moved (i + 1)) wr (w2.setCell ⟨lb, 6, none⟩ uv2)) := hst2
      have HHR : Hid (∀ ty, (Builtin.append_ #[36, 36] ty #[uv1, .slice (some ⟨Y.heap.size, 0, none⟩) 1 1]).run Try.prog (Y.alloc (.cells #[d.v] 41)) = .ok uv2 w2) := hr2
      have hget : ((x.box.drop i).map Dv.v).toArray.getD 0 undef = .slice dao d.s.length dc := by rw [hdrop, ← hdv]; simp
      have hext : ((x.box.drop i).map Dv.v).toArray.extract 1 ((x.box.drop i).map Dv.v).toArray.size = ((x.box.drop (i + 1)).map Dv.v).toArray := by
        rw [hdrop]
        simp
        rw [List.take_of_length_le (by simp)]
      have hpos : 0 < ((x.box.drop i).map Dv.v).toArray.size := by rw [hdrop]; simp
      have HC : Hid (wr.heap[cb]? = some (.chan x.win ((x.box.drop i).map Dv.v).toArray false s r false)) := hc'
      have HY : Hid (Y = wr.setChan cb x.win ((x.box.drop (i + 1)).map Dv.v).toArray false s (r + 1) false) := hY
      have HYS : Hid (Y.heap.size = wr.heap.size) := hYs
      have HGET : Hid _ := hget
      have HEXT : Hid _ := hext
      have HUL : Hid ((x.moved (i + 1)).under.length = x.under.length + (i + 1)) := hul
      have HDM : Hid (d ∈ (x.moved (i + 1)).all) := show d ∈ (x.moved (i + 1)).all from ((moved_all x (i + 1)).trans (moved_all x i).symm).mem_iff.2 hdm
      have HLL : Hid (l.length ≤ 100000) := show l.length ≤ 100000 from by
        have e : ∀ (q : Int) (ss : List (List UInt8)), (tell x.me x.peer (x.next - 1) q ss).length = ss.length := fun q ss => by
          induction ss generalizing q with
          | nil => rfl
          | cons a t ih => simp [tell, ih]
        have := congrArg List.length HE.out.pr
        rw [List.length_append, e, List.length_map, List.length_map, List.length_map, List.length_take] at this
        omega
      have HBL : Hid (boxLen cb wr = x.box.length - i) := show boxLen cb wr = x.box.length - i from by
        unfold boxLen
        rw [hc']
        simp
      rw [hdv] at HHR
      obtain ⟨vo1, vc1, hvd1, _⟩ := own_slice HE.out.sl.r
      obtain ⟨vn, hvn⟩ : ∃ vn, vn = l.length := ⟨_, rfl⟩
      rw [← hvn] at hvd1
      clear hd hdm hc' hr2 hM2 hst2 hdv hul hY hYs hdrop hget hext hun hvn c4
      subst hu1 hu2 hvd1
      refine wpN_seq ?_
      refine wpN_comm (v := .tuple #[.int .i64 0, .bool true, .slice dao d.s.length dc]) (w' := Y) rfl rfl (fun b k cs hb => (step_lone_select_recv_buf (c := cb) (z := .slice none 0 0) (cap := x.win) (buf := ((x.box.drop i).map Dv.v).toArray) (closed := false) (s := s) (r := r) (tm := false) (stepG_comm (cases := #[rcase cb (.slice none 0 0)]) (blocking := false) (shape := .select) (w' := wr) rfl rfl hb (by simp [go_sem, execOp, rcase, Act.eval])) HC.out hpos).trans (by rw [HGET.out, HEXT.out, ← HY.out]; rfl)) ?_
      refine ops_val rfl rfl (v := .int .i64 0) (by simp [execOp, Act.eval, go_sem, Act.put, goInt]) ?_
      refine ops_val rfl rfl (v := .bool true) (by simp [execOp, Act.eval, go_sem, Act.put, goInt]) ?_
      simp only [wpOps, Act.put, List.setIfInBounds_toArray, List.set_cons_succ, List.set_cons_zero]
      show wpN _ _ _ _ _
      refine wpN_of ?_
      clear HC HGET HEXT HY hpos
      go_wp2_with (at_builtin; refine wpList_runs rfl _ _ 36 rfl rfl rfl HHR.out ?_)
      refine Calls.mono HGO.out ?_
      rintro e w4 ⟨rfl, q4, hw4⟩
      have hb4 : Below (w2.setCell ⟨lb, 6, none⟩ (.slice uo2 (x.under.length + i + 1) uc2)).heap.size (w2.setCell ⟨lb, 6, none⟩ (.slice uo2 (x.under.length + i + 1) uc2)) w4 := by rw [hw4]; exact ⟨rfl, rfl, rfl, Nat.le_refl _, fun _ _ => rfl⟩
      have hM4 := HM2.out.more hb4
      have HSG : Hid _ := segment_any (x := x.moved (i + 1)) (x.acked + ((x.under.length + (i + 1) : Nat) : Int)) w4 hM4 ⟨hn1, hn2⟩ (own_by (hM4.dt d HDM.out)) hdb
      rw [HDV.out] at HSG
      have HB4 : Hid (Below (w2.setCell ⟨lb, 6, none⟩ (.slice uo2 (x.under.length + i + 1) uc2)).heap.size (w2.setCell ⟨lb, 6, none⟩ (.slice uo2 (x.under.length + i + 1) uc2)) w4) := hb4
      clear hb4 hM4 hw4 HGO HHR cY6 hc6 hf6
      go_wp2_with fail
      refine Calls.mono HSG.out ?_
      rintro e w5 ⟨v5, rfl, hr5, hb5⟩
      obtain ⟨v6, w6, hr6, hE6, hbl6⟩ := HE.out.step HMW.out HLL.out HD.out HM2.out HST.out (HB4.out.trans (hb5.mono HB4.out.size)) (ownsRow_mono hr5 HB4.out.size)
      have HHR : Hid _ := hr6
      have HE6 : Hid _ := hE6
      have HBL6 : Hid (boxLen cb w6 = x.box.length - (i + 1)) := hbl6
      obtain ⟨o5, c5, hv5, _⟩ := own_slice hr5
      subst hv5
      clear hr5 hb5 hr6 hE6 hbl6 HSG HE HM2 HST HB4
      unfold segA
      simp only [LV.moved]
      go_wp2_with (at_builtin; refine wpList_runs rfl _ _ 33 rfl rfl rfl HHR.out ?_)
      refine ⟨⟨v6, i + 1, _, _, by omega, HE6.out, _, _, _, _, _, _, _, _, _, _, _, _, _, _, _, _, _, _, _, _, _, _, _, _, _, _, _, _, _, _, _, rfl⟩, ?_⟩
      show boxLen cb w6 < boxLen cb wr
      rw [HBL6.out, HBL.out]
      omega
    · have hie : i = x.box.length := by omega
      have hnil : ((x.box.drop i).map Dv.v).toArray = #[] := by rw [List.drop_of_length_le (by omega)]; rfl
      rw [hnil] at hc'
      have HC : Hid (wr.heap[cb]? = some (.chan x.win #[] false s r false)) := hc'
      have HEE : Hid (ES L lb cb mb M uv vo x lo w uv1 vd l x.box.length wr) := show ES L lb cb mb M uv vo x lo w uv1 vd l x.box.length wr from by rw [← hie]; exact HE.out
      clear hc' hnil hie c4 HE
      refine wpN_seq ?_
      refine wpN_comm rfl rfl (fun b k cs hb => step_lone_select_default (c := cb) (z := .slice none 0 0) (cap := x.win) (s := s) (r := r) (tm := false) (stepG_comm (cases := #[rcase cb (.slice none 0 0)]) (blocking := false) (shape := .select) (w' := wr) rfl rfl hb (by simp [go_sem, execOp, rcase, Act.eval])) HC.out) ?_
      refine ops_val rfl rfl (v := .int .i64 (-1)) (by simp [execOp, Act.eval, go_sem, Act.put, goInt]) ?_
      refine ops_val rfl rfl (v := .bool false) (by simp [execOp, Act.eval, go_sem, Act.put, goInt]) ?_
      simp only [wpOps, Act.put, List.setIfInBounds_toArray, List.set_cons_succ, List.set_cons_zero]
      show wpN _ _ _ _ _
      refine wpN_of ?_
      go_wp2_with fail
      go_ret
      exact ⟨_, _, _, rfl, HEE.out⟩
end Go.Proofs.Ytcjgicfmfjomgaa
