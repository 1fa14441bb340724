import Derived.Test.YtcjgicfmfjomgaaMo
namespace Go.Proofs.Ytcjgicfmfjomgaa
open Go.RowKit Go.PlainAid Go.MapKept Go.Conc
set_option linter.unusedVariables false
set_option linter.unusedSimpArgs false
/-- What a step of a link may change, and whose blocks it has then. -/
def LStp (lb cb mb : Nat) (uv uv' : Value) (x x' : LV) (w w' : World) : Prop := Chg (lown lb cb mb uv x) w w' ∧ ∀ k, lown lb cb mb uv' x' k → lown lb cb mb uv x k ∨ w.heap.size ≤ k
theorem LStp.refl {lb cb mb : Nat} {uv : Value} {x : LV} {w w' : World} (hb : Below w.heap.size w w') : LStp lb cb mb uv uv x x w w' := ⟨Chg.ofBelow _ hb, fun k hk => Or.inl hk⟩
def LV.push (x : LV) (d : Dv) : LV := { x with box := x.box ++ [d] }
theorem setChan_chg (w : World) (c cap : Nat) (buf : Array Value) (cl : Bool) (s r : Nat) (tm : Bool) : Chg (fun k => k = c) w (w.setChan c cap buf cl s r tm) :=
  ⟨rfl, rfl, rfl, by simp [World.setChan], fun k hk hn => by simp only [World.setChan]; rw [Array.getElem?_setIfInBounds_ne (fun e => hn e.symm)]⟩
theorem all_push (x : LV) (d : Dv) : (x.push d).all.Perm (d :: x.all) := by
  unfold LV.all LV.push
  simp only [List.append_assoc]
  exact List.perm_middle
/-- Data is handed in: it stands in the box. -/
theorem LM.push {L lb cb mb : Nat} {uv v : Value} {x : LV} {s : List UInt8} {w w1 : World} (h : LM L lb cb mb uv x w) (hb : Below w.heap.size w w1) (hv : w1.ownsRow w.heap.size 5 1 v s.length (s.map B)) {sn r : Nat} :
    LM L lb cb mb uv (x.push ⟨v, s⟩) (w1.setChan cb x.win ((x.box.map Dv.v).toArray.push v) false sn r false) ∧ LStp lb cb mb uv uv x (x.push ⟨v, s⟩) w (w1.setChan cb x.win ((x.box.map Dv.v).toArray.push v) false sn r false) := by
  have h1 := h.more hb
  have hc := setChan_chg w1 cb x.win ((x.box.map Dv.v).toArray.push v) false sn r false
  obtain ⟨s0, r0, hcc⟩ := h1.c
  have hLw : L ≤ w.heap.size := Nat.le_trans h.lo.1 (Nat.le_of_lt h.b.lt)
  have hty : ∀ {t z n : Nat} {u : Value} {xs : List Value} {M : Nat}, w1.ownsRow M t z u n xs → (w1.setChan cb x.win ((x.box.map Dv.v).toArray.push v) false sn r false).ownsRow M t z u n xs := fun hu => ownsRow_same hu (fun g e => hc.block g (ownsRow_lt hu e).2 (fun e2 => by
    obtain ⟨cur, hcur⟩ := ownsRow_type hu e
    rw [e2] at hcur
    have := hcur.symm.trans hcc
    cases this))
  refine ⟨⟨?_, ⟨sn, r, ?_⟩, hty h1.u, ?_, fun d hd => ?_, ?_, h.lo⟩, ?_, fun k hk => ?_⟩
  · exact hc.blk h1.b (fun e => h1.ne_lb.1 e.symm)
  · have : (w1.setChan cb x.win ((x.box.map Dv.v).toArray.push v) false sn r false).heap[cb]? = some (.chan x.win ((x.box.map Dv.v).toArray.push v) false sn r false) := heap_setChan _ _ _ _ _ _ _ _ h1.clt
    simpa [LV.push] using this
  · refine h1.m.same (hc.block mb h1.m.lt (fun e => ?_))
    obtain ⟨es, cl, hm, _⟩ := h1.m
    rw [e] at hm
    have := hm.symm.trans hcc
    cases this
  · have hd' := (all_push x ⟨v, s⟩).mem_iff.1 hd
    rcases List.mem_cons.1 hd' with rfl | hd'
    · exact ownsRow_mono (hty hv) hLw
    · exact hty (h1.dt d hd')
  · refine (List.Perm.pairwise_iff (fun {a b} hab g h1 h2 => hab g h2 h1) (all_push x ⟨v, s⟩)).2 (List.pairwise_cons.2 ⟨fun e he g h2 h3 => ?_, h.dj⟩)
    have h4 := (ownsRow_lt (h.dt e he) h3).2
    have h5 := (ownsRow_lt hv h2).1
    omega
  · exact (Chg.ofBelow (lown lb cb mb uv x) hb).trans (hc.mono (B := lown lb cb mb uv x) (fun j _ e => .inr (.inl e))) (fun _ _ e => e)
  · rcases hk with q | q | q | q | ⟨d, hd, q⟩
    · exact .inl (.inl q)
    · exact .inl (.inr (.inl q))
    · exact .inl (.inr (.inr (.inl q)))
    · exact .inl (.inr (.inr (.inr (.inl q))))
    · have hd' := (all_push x ⟨v, s⟩).mem_iff.1 hd
      rcases List.mem_cons.1 hd' with rfl | hd'
      · exact .inr (ownsRow_lt hv q).1
      · exact .inl (.inr (.inr (.inr (.inr ⟨d, hd', q⟩))))
def sendCode (x : LV) (s : List UInt8) : Int := if 4000 < s.length then 2 else if mayGo x = true then 0 else 30
def SentTo (x : LV) (s : List UInt8) (x' : LV) : Prop := if sendCode x s = 0 then ∃ v, x' = x.push ⟨v, s⟩ else x' = x
set_option maxRecDepth 100000 in
set_option maxHeartbeats 3200000 in
theorem send_any {L lb cb mb : Nat} {uv v : Value} {x : LV} {s : List UInt8} (w : World) (h : LM L lb cb mb uv x w) (hb : 0 ≤ x.acked ∧ x.acked ≤ 1099511627776) (hw : x.win ≤ 16) (hs : x.box.length + x.under.length ≤ x.win) (hd : By w v s) (hsl : s.length ≤ 1000000) :
    Calls Try.prog 18 #[.pointer (some ⟨lb, 0, none⟩), v] w fun e w' => e = .returned (.int .i64 (sendCode x s)) ∧ ∃ x', SentTo x s x' ∧ LM L lb cb mb uv x' w' ∧ LStp lb cb mb uv uv x x' w w' := by
  obtain ⟨ao, k, c, hv, hk, hrest⟩ := id hd
  clear hrest
  subst hk
  have HM : Hid _ := h
  have HD : Hid (By w v s) := hd
  have HMO : Hid _ := mouth_any w h hb hw hs
  subst hv
  clear h hd
  by_cases h4 : (4000 : Int) < (s.length : Int)
  · have hsc : sendCode x s = 2 := by unfold sendCode; rw [if_pos (by omega)]
    have HSC : Hid (sendCode x s = 2) := hsc
    clear hsc
    go_enter Try.func18, Try.ntmps18
    go_wp2_with fail
    go_ret
    refine ⟨by rw [HSC.out]; rfl, x, ?_, HM.out, LStp.refl (Below.refl _ _)⟩
    unfold SentTo
    rw [HSC.out, if_neg (by decide)]
  · refine calls_of_wpN Try.func18 rfl ?_
    simp only [Try.ntmps18, List.size_toArray, List.length_cons, List.length_nil, Nat.reduceAdd, Nat.reduceSub, Array.replicate_succ, Array.replicate_zero, List.push_toArray, List.append_toArray, List.nil_append, List.cons_append]
    refine wpN_seq (wpN_of ?_)
    go_wp2_with fail
    refine wpN_seq (wpN_of ?_)
    go_wp2_with fail
    refine wpN_seq (wpN_of ?_)
    go_wp2_with fail
    refine Calls.mono HMO.out ?_
    rintro e w1 ⟨rfl, hb1⟩
    have HB1 : Hid (Below w.heap.size w w1) := hb1
    have HCL : Hid _ := clone_any w1 (HD.out.keep hb1) hsl
    clear hb1 HMO
    cases hmg : mayGo x with
    | true =>
      have HMG : Hid (mayGo x = true) := hmg
      rw [if_pos rfl]
      clear hmg
      go_wp2_with fail
      refine Calls.mono HCL.out ?_
      rintro e w2 ⟨v2, rfl, hr2, hb2⟩
      have hb12 : Below w.heap.size w w2 := HB1.out.trans (hb2.mono HB1.out.size)
      have hr2' : w2.ownsRow w.heap.size 5 1 v2 s.length (s.map B) := ownsRow_mono hr2 HB1.out.size
      obtain ⟨sn, r, hc2⟩ := (HM.out.more hb12).c
      have HP : Hid _ := HM.out.push hb12 hr2' (sn := sn + 1) (r := r)
      have HC2 : Hid (w2.heap[cb]? = some (.chan x.win (x.box.map Dv.v).toArray false sn r false)) := hc2
      have HSC : Hid (sendCode x s = 0) := show sendCode x s = 0 from by unfold sendCode; rw [if_neg (by omega), if_pos HMG.out]
      have HRO : Hid ((x.box.map Dv.v).toArray.size < x.win) := show (x.box.map Dv.v).toArray.size < x.win from by
        have := HMG.out
        unfold mayGo at this
        simp at this
        simp; omega
      obtain ⟨ao2, cp2, hv2, _⟩ := own_slice hr2
      subst hv2
      clear hb2 hb12 hr2 hr2' hc2 HCL
      go_wp2_with fail
      refine wpN_seq ?_
      refine wpN_comm rfl rfl (fun b k cs hb => step_lone_select_send_room (c := cb) (cap := x.win) (buf := (x.box.map Dv.v).toArray) (s := sn) (r := r) (tm := false) (stepG_comm (cases := #[scase cb (.slice ao2 s.length cp2) (.slice none 0 0)]) (blocking := false) (shape := .select) (w' := w2) rfl rfl hb (by simp [go_sem, execOp, scase, Act.eval])) HC2.out HRO.out) ?_
      refine ops_val rfl rfl (v := .int .i64 0) (by simp [execOp, Act.eval, go_sem, Act.put, goInt]) ?_
      refine ops_val rfl rfl (v := .bool true) (by simp [execOp, Act.eval, go_sem, Act.put, goInt]) ?_
      simp only [wpOps, Act.put, List.setIfInBounds_toArray, List.set_cons_succ, List.set_cons_zero]
      show wpN _ _ _ _ _
      refine wpN_of ?_
      go_wp2_with fail
      go_ret
      refine ⟨by rw [HSC.out]; rfl, x.push ⟨.slice ao2 s.length cp2, s⟩, ?_, by simpa only [List.push_toArray] using HP.out⟩
      unfold SentTo
      rw [HSC.out, if_pos rfl]
      exact ⟨_, rfl⟩
    | false =>
      have HMG : Hid (mayGo x = false) := hmg
      rw [if_neg (by decide)]
      clear hmg
      go_wp2_with fail
      refine Calls.mono HCL.out ?_
      rintro e w2 ⟨v2, rfl, hr2, hb2⟩
      have hb12 : Below w.heap.size w w2 := HB1.out.trans (hb2.mono HB1.out.size)
      have HP : Hid (LM L lb cb mb uv x w2) := HM.out.more hb12
      have HB12 : Hid (Below w.heap.size w w2) := hb12
      have HSC : Hid (sendCode x s = 30) := show sendCode x s = 30 from by unfold sendCode; rw [if_neg (by omega), if_neg (by rw [HMG.out]; decide)]
      obtain ⟨ao2, cp2, hv2, _⟩ := own_slice hr2
      subst hv2
      clear hb2 hb12 hr2 HCL
      go_wp2_with fail
      refine wpN_seq ?_
      refine wpN_comm rfl rfl (fun b k cs hb => step_lone_select_send_nil (stepG_comm (cases := #[scaseNil (.slice ao2 s.length cp2) (.slice none 0 0)]) (blocking := false) (shape := .select) (w' := w2) rfl rfl hb (by simp [go_sem, execOp, scaseNil, Act.eval]))) ?_
      refine ops_val rfl rfl (v := .int .i64 (-1)) (by simp [execOp, Act.eval, go_sem, Act.put, goInt]) ?_
      refine ops_val rfl rfl (v := .bool false) (by simp [execOp, Act.eval, go_sem, Act.put, goInt]) ?_
      simp only [wpOps, Act.put, List.setIfInBounds_toArray, List.set_cons_succ, List.set_cons_zero]
      show wpN _ _ _ _ _
      refine wpN_of ?_
      go_wp2_with fail
      go_ret
      refine ⟨by rw [HSC.out]; rfl, x, ?_, HP.out, LStp.refl HB12.out⟩
      unfold SentTo
      rw [HSC.out, if_neg (by decide)]
end Go.Proofs.Ytcjgicfmfjomgaa
