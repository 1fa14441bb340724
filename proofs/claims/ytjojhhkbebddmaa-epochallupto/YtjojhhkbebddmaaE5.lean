import Derived.Test.YtjojhhkbebddmaaE4
namespace Go.Proofs.Ytjojhhkbebddmaa
open Go.RowKit Go.PlainAid Go.Conc
set_option linter.unusedVariables false
set_option linter.unusedSimpArgs false
theorem heap_setChan (w : World) (cb cap : Nat) (buf : Array Value) (cl : Bool) (s r : Nat) (t : Bool) (h : cb < w.heap.size) : (w.setChan cb cap buf cl s r t).heap[cb]? = some (.chan cap buf cl s r t) := by
  simp [World.setChan, h]
theorem MM.chan {L mb cb : Nat} {x : EV} {A A' : List Ac} {w : World} (h : MM L mb cb x A w) (s r : Nat) : MM L mb cb x A' (w.setChan cb 3 (A'.map acV).toArray false s r false) :=
  ⟨(setChan_chg w cb 3 (A'.map acV).toArray false s r false).blk h.b (fun e => h.ne e.symm), ⟨s, r, heap_setChan _ _ _ _ _ _ _ _ h.clt⟩, h.lo⟩
set_option maxRecDepth 100000 in
set_option maxHeartbeats 6400000 in
theorem ask_any {L mb cb : Nat} {x : EV} {A : List Ac} (a : Ac) (w : World) (h : MM L mb cb x A w) (hl : A.length < 3) : Calls Try.prog 32 #[.pointer (some ⟨mb, 0, none⟩), acV a] w fun e w' => e = .returned (.tuple #[]) ∧ MM L mb cb x (A ++ [a]) w' ∧ Chg (mown mb cb) w w' := by
  obtain ⟨k, t, ⟨er, ek⟩, ⟨pr, pk⟩⟩ := a
  have c67 := h.c67
  have HM : Hid _ := h
  clear h
  unfold acV
  simp only
  refine calls_of_wpN Try.func32 rfl ?_
  simp only [Try.ntmps32, List.size_toArray, List.length_cons, List.length_nil, Nat.reduceAdd, Nat.reduceSub, Array.replicate_succ, Array.replicate_zero, List.push_toArray, List.append_toArray, List.nil_append, List.cons_append]
  refine wpN_seq (wpN_of ?_)
  go_wp2_with fail
  have hm2 := HM.out.more ((Below.refl w.heap.size w).alloc (Nat.le_refl _) (.cells #[.int .i64 k, .int .i64 t, .int .i64 er, .int .i64 ek, .int .i64 pr, .int .i64 pk] 56))
  have c67' := hm2.c67
  have hbx : Blk (w.alloc (.cells #[.int .i64 k, .int .i64 t, .int .i64 er, .int .i64 ek, .int .i64 pr, .int .i64 pk] 56)) w.heap.size #[.int .i64 k, .int .i64 t, .int .i64 er, .int .i64 ek, .int .i64 pr, .int .i64 pk] 56 := heap_alloc_new w _
  have g0 := hbx.cell 0
  have g1 := hbx.cell 1
  have g2 := hbx.cell 2
  have g3 := hbx.cell 3
  have g4 := hbx.cell 4
  have g5 := hbx.cell 5
  obtain ⟨s, r, hc⟩ := hm2.c
  have hfin : MM L mb cb x (A ++ [(⟨k, t, ⟨er, ek⟩, ⟨pr, pk⟩⟩ : Ac)]) ((w.alloc (.cells #[.int .i64 k, .int .i64 t, .int .i64 er, .int .i64 ek, .int .i64 pr, .int .i64 pk] 56)).setChan cb 3 ((A ++ [(⟨k, t, ⟨er, ek⟩, ⟨pr, pk⟩⟩ : Ac)]).map acV).toArray false (s + 1) r false) := hm2.chan _ _
  have hch : Chg (mown mb cb) w ((w.alloc (.cells #[.int .i64 k, .int .i64 t, .int .i64 er, .int .i64 ek, .int .i64 pr, .int .i64 pk] 56)).setChan cb 3 ((A ++ [(⟨k, t, ⟨er, ek⟩, ⟨pr, pk⟩⟩ : Ac)]).map acV).toArray false (s + 1) r false) := (Chg.ofBelow _ ((Below.refl w.heap.size w).alloc (Nat.le_refl _) _)).trans (setChan_chg _ cb 3 _ false (s + 1) r false) (fun j _ e => .inr e)
  have hpush : ((A ++ [(⟨k, t, ⟨er, ek⟩, ⟨pr, pk⟩⟩ : Ac)]).map acV).toArray = (A.map acV).toArray.push (.agg #[.int .i64 k, .int .i64 t, .int .i64 er, .int .i64 ek, .int .i64 pr, .int .i64 pk]) := by simp [acV]
  rw [hpush] at hfin hch
  have hroom : (A.map acV).toArray.size < 3 := by simpa using hl
  generalize (w.alloc (.cells #[.int .i64 k, .int .i64 t, .int .i64 er, .int .i64 ek, .int .i64 pr, .int .i64 pk] 56)) = W at *
  have HF : Hid _ := hfin
  have HC : Hid _ := hch
  have HCC : Hid (W.heap[cb]? = some (.chan 3 (A.map acV).toArray false s r false)) := hc
  have HR : Hid ((A.map acV).toArray.size < 3) := hroom
  clear hfin hch hpush hm2 hbx HM hc hroom c67
  refine wpN_seq (wpN_of ?_)
  go_wp2_with fail
  refine wpN_seq ?_
  refine wpN_comm rfl rfl (fun b k' cs hb => step_lone_select_send_room (c := cb) (cap := 3) (buf := (A.map acV).toArray) (s := s) (r := r) (tm := false) (stepG_comm (cases := #[scase cb (.agg #[.int .i64 k, .int .i64 t, .int .i64 er, .int .i64 ek, .int .i64 pr, .int .i64 pk]) (.agg #[.int .i64 0, .int .i64 0, .int .i64 0, .int .i64 0, .int .i64 0, .int .i64 0])]) (blocking := false) (shape := .select) (w' := W) rfl rfl hb (by simp [go_sem, execOp, scase, Act.eval])) HCC.out HR.out) ?_
  refine ops_val rfl rfl (v := .int .i64 0) (by simp [execOp, Act.eval, go_sem, Act.put, goInt]) ?_
  refine ops_val rfl rfl (v := .bool true) (by simp [execOp, Act.eval, go_sem, Act.put, goInt]) ?_
  simp only [wpOps, Act.put, List.setIfInBounds_toArray, List.set_cons_succ, List.set_cons_zero]
  show wpN _ _ _ _ _
  refine wpN_of ?_
  go_wp2_with fail
  exact end0n rfl ⟨rfl, by simpa only [List.push_toArray] using HF.out, by simpa only [List.push_toArray] using HC.out⟩
theorem wpList_runs {ops : Array Oper} {rest : List Oper} {o : Oper} {a : Act} {Q : Exit → Act → World → Prop} {w w' : World} (hgd : o.guard = none) (s x : Operand) (t : TypeId) (ho : o.op = .call { callee := .builtin .append, args := #[s, x], argTypes := #[t, t] }) {v y v' : Value} (hs : a.eval s = v) (hx : a.eval x = y)
    (hr : ∀ ty, (Builtin.append_ #[t, t] ty #[v, y]).run Try.prog w = .ok v' w') (h : wpList Try.prog ops Q rest (a.put o.dst v') w') : wpList Try.prog ops Q (o :: rest) a w := by
  refine wpList_plain hgd fun K hK => ?_
  unfold Oper.wp execOp
  simp only [ho, resolve, invoke, builtin, Sem.run_bind, Sem.run_pure, Result.andThen_ok, List.map_toArray, List.map_cons, List.map_nil, hs, hx, hr]
  exact hK _ _ h
theorem app_ac {w : World} {L : Nat} {v : Value} {l : List Ac} (d : Ac) (hown : w.ownsRow L 56 6 v l.length (flatA l)) (hb : L ≤ w.heap.size) (hl : l.length ≤ 1000000) :
    ∃ v' w', (∀ ty, (Builtin.append_ #[52, 52] ty #[v, .slice (some ⟨w.heap.size, 0, none⟩) 1 1]).run Try.prog (w.alloc (.cells #[.int .i64 d.kd, .int .i64 d.to, .int .i64 d.e.r, .int .i64 d.e.k, .int .i64 d.o.r, .int .i64 d.o.k] 56)) = .ok v' w') ∧ w'.ownsRow L 56 6 v' (l ++ [d]).length (flatA (l ++ [d])) ∧ Grew w w' v v' := by
  obtain ⟨v5, w5, hr5, ho5, hg5, _⟩ := app_any (w := w.alloc (.cells #[.int .i64 d.kd, .int .i64 d.to, .int .i64 d.e.r, .int .i64 d.e.k, .int .i64 d.o.r, .int .i64 d.o.k] 56)) 52 56 (.agg #[.int .i64 0, .int .i64 0, .int .i64 0, .int .i64 0, .int .i64 0, .int .i64 0]) 6 48 Try.underlying52 info56 rfl (by decide) (by decide) (hown.alloc _) ⟨w.heap.size, 0, none⟩ 1 1 d.row rfl (fun j uu hu => by
    have hB : Blk (w.alloc (.cells #[.int .i64 d.kd, .int .i64 d.to, .int .i64 d.e.r, .int .i64 d.e.k, .int .i64 d.o.r, .int .i64 d.o.k] 56)) w.heap.size #[.int .i64 d.kd, .int .i64 d.to, .int .i64 d.e.r, .int .i64 d.e.k, .int .i64 d.o.r, .int .i64 d.o.k] 56 := heap_alloc_new w _
    rw [addr_add, Nat.zero_add, hB.cell j]
    simpa [Ac.row] using hu) (fun uu hu => flatA_one [d] uu (by simpa [flatA] using hu)) (by omega) (by rw [World.size_alloc]; omega) 52
  refine ⟨v5, w5, fun ty => hr5, ?_, hg5.ofAlloc⟩
  rw [flatA_app]
  simpa [flatA] using ho5
def boxLen (cb : Nat) (w : World) : Nat := match w.heap[cb]? with
  | some (.chan _ buf _ _ _ _) => buf.size
  | _ => 0
structure KS (L mb cb : Nat) (x : EV) (A : List Ac) (w : World) (v : Value) (i : Nat) (wr : World) : Prop where
  mm : MM L mb cb x (A.drop i) wr
  ow : wr.ownsRow w.heap.size 56 6 v (A.take i).length (flatA (A.take i))
  ch : Chg (mown mb cb) w wr
theorem KS.len {L mb cb : Nat} {x : EV} {A : List Ac} {w : World} {v : Value} {i : Nat} {wr : World} (h : KS L mb cb x A w v i wr) : boxLen cb wr = A.length - i := by
  obtain ⟨s, r, hc⟩ := h.mm.c
  unfold boxLen
  rw [hc]
  simp
theorem KS.step {L mb cb : Nat} {x : EV} {A : List Ac} {w : World} {v : Value} {i : Nat} {wr : World} (h : KS L mb cb x A w v i wr) (hm : mb < w.heap.size) (hcb : cb < w.heap.size) {d : Ac} (hd : A[i]? = some d) (hi : i ≤ 1000) (s r : Nat) {W : World} (hW : Below (wr.setChan cb 3 ((A.drop (i + 1)).map acV).toArray false s r false).heap.size (wr.setChan cb 3 ((A.drop (i + 1)).map acV).toArray false s r false) W) :
    ∃ v' w', (∀ ty, (Builtin.append_ #[52, 52] ty #[v, .slice (some ⟨W.heap.size, 0, none⟩) 1 1]).run Try.prog (W.alloc (.cells #[.int .i64 d.kd, .int .i64 d.to, .int .i64 d.e.r, .int .i64 d.e.k, .int .i64 d.o.r, .int .i64 d.o.k] 56)) = .ok v' w') ∧ KS L mb cb x A w v' (i + 1) w' := by
  have hm1 : MM L mb cb x (A.drop (i + 1)) (wr.setChan cb 3 ((A.drop (i + 1)).map acV).toArray false s r false) := h.mm.chan s r
  have hm2 := hm1.more hW
  have hc1 := setChan_chg wr cb 3 ((A.drop (i + 1)).map acV).toArray false s r false
  have ho1 : (wr.setChan cb 3 ((A.drop (i + 1)).map acV).toArray false s r false).ownsRow w.heap.size 56 6 v (A.take i).length (flatA (A.take i)) := ownsRow_same h.ow (fun g e => hc1.block g (ownsRow_lt h.ow e).2 (fun e2 => by have := (ownsRow_lt h.ow e).1; omega))
  have ho2 : W.ownsRow w.heap.size 56 6 v (A.take i).length (flatA (A.take i)) := ownsRow_same ho1 (fun g e => hW.block g (ownsRow_lt ho1 e).2)
  have hsz : w.heap.size ≤ W.heap.size := Nat.le_trans (Nat.le_trans h.ch.size hc1.size) hW.size
  obtain ⟨v', w', hr, ho, hg⟩ := app_ac d ho2 hsz (by simp; omega)
  have htk : A.take (i + 1) = A.take i ++ [d] := by rw [List.take_add_one, hd]; rfl
  have hc2 : Chg (mown mb cb) w W := (h.ch.trans hc1 (fun j _ e => .inr e)).trans (Chg.ofBelow (fun _ => False) hW) (fun _ _ e => e.elim)
  refine ⟨v', w', hr, ⟨hm2.keep hg.chg (fun k hk e => ?_), by rw [htk]; exact ho, hc2.trans hg.chg (fun j hj e => ?_)⟩⟩
  · have := (ownsRow_lt ho2 e).1
    rcases hk with rfl | rfl <;> omega
  · have := (ownsRow_lt ho2 e).1
    omega
def KI (L mb cb : Nat) (x : EV) (A : List Ac) (w : World) (a : Act) (wr : World) : Prop := ∃ i v, i ≤ A.length ∧ KS L mb cb x A w v i wr ∧ ∃ u4 u5 u6 u7 u8 u9 u10 u11 u12 u13 u14 u15 u16 u17 : Value, a = { tmps := #[.pointer (some ⟨mb, 0, none⟩), undef, .slice none 0 0, v, u4, u5, u6, u7, u8, u9, u10, u11, u12, u13, u14, u15, u16, u17], defers := [] }
set_option maxRecDepth 100000 in
set_option maxHeartbeats 6400000 in
theorem asked_any {L mb cb : Nat} {x : EV} {A : List Ac} (w : World) (h : MM L mb cb x A w) (hl : A.length ≤ 10) : Calls Try.prog 33 #[.pointer (some ⟨mb, 0, none⟩)] w fun e w' => ∃ v, e = .returned v ∧ w'.ownsRow w.heap.size 56 6 v A.length (flatA A) ∧ MM L mb cb x [] w' ∧ Chg (mown mb cb) w w' := by
  have HK : Hid (KS L mb cb x A w (.slice none 0 0) 0 w) := ⟨h, World.ownsRow_nil _ _ _ _, Chg.refl _ _⟩
  have hm := h.b.lt
  have hcb := h.clt
  clear h
  refine calls_of_wpN Try.func33 rfl ?_
  simp only [Try.ntmps33, List.size_toArray, List.length_cons, List.length_nil, Nat.reduceAdd, Nat.reduceSub, Array.replicate_succ, Array.replicate_zero, List.push_toArray, List.append_toArray, List.nil_append, List.cons_append]
  refine wpN_seq (wpN_of ?_)
  go_wp2_with fail
  refine wpN_seq (wpN_of ?_)
  go_wp2_with fail
  refine wpN_block ?_
  refine wpN_loop (KI L mb cb x A w) (fun _ wr => boxLen cb wr) ?_ ?_
  · exact ⟨0, _, Nat.zero_le _, HK.out, _, _, _, _, _, _, _, _, _, _, _, _, _, _, rfl⟩
  · rintro a wr ⟨i, v, hi, hK, u4, u5, u6, u7, u8, u9, u10, u11, u12, u13, u14, u15, u16, u17, rfl⟩
    have HE : Hid _ := hK
    clear HK hK
    have c67 := HE.out.mm.c67
    refine wpN_block ?_
    refine wpN_seq (wpN_of ?_)
    go_wp2_with fail
    obtain ⟨s, r, hc⟩ := HE.out.mm.c
    by_cases hlt : i < A.length
    · obtain ⟨d, hd⟩ : ∃ d, A[i]? = some d := ⟨A[i], List.getElem?_eq_getElem hlt⟩
      have hdrop : (A.drop i).map acV = acV d :: (A.drop (i + 1)).map acV := by
        rw [List.drop_eq_getElem_cons hlt, List.map_cons]
        congr 2
        rw [List.getElem?_eq_getElem hlt] at hd
        exact Option.some.inj hd
      obtain ⟨k, t, ⟨er, ek⟩, ⟨pr, pk⟩⟩ := d
      obtain ⟨Y, hY⟩ : ∃ Y, Y = wr.setChan cb 3 ((A.drop (i + 1)).map acV).toArray false s (r + 1) false := ⟨_, rfl⟩
      obtain ⟨v6, w6, hr6, hK6⟩ := HE.out.step hm hcb hd (by omega) s (r + 1) (W := Y.alloc (.cells #[.int .i64 k, .int .i64 t, .int .i64 er, .int .i64 ek, .int .i64 pr, .int .i64 pk] 56)) (by rw [← hY]; exact (Below.refl _ _).alloc (Nat.le_refl _) _)
      rw [World.size_alloc] at hr6
      simp only at hr6
      have hget : ((A.drop i).map acV).toArray.getD 0 undef = .agg #[.int .i64 k, .int .i64 t, .int .i64 er, .int .i64 ek, .int .i64 pr, .int .i64 pk] := by rw [hdrop]; simp [acV]
      have hext : ((A.drop i).map acV).toArray.extract 1 ((A.drop i).map acV).toArray.size = ((A.drop (i + 1)).map acV).toArray := by
        rw [hdrop]
        simp
        rw [List.take_of_length_le (by simp)]
      have hpos : 0 < ((A.drop i).map acV).toArray.size := by rw [hdrop]; simp
      obtain ⟨vo, vc, hv, _⟩ := own_slice HE.out.ow
      have HBL : Hid (boxLen cb wr = A.length - i) := HE.out.len
      have HY : Hid (Y = wr.setChan cb 3 ((A.drop (i + 1)).map acV).toArray false s (r + 1) false) := hY
      have HC : Hid (wr.heap[cb]? = some (.chan 3 ((A.drop i).map acV).toArray false s r false)) := hc
      have HGET : Hid _ := hget
      have HEXT : Hid _ := hext
      have HK6 : Hid _ := hK6
      obtain ⟨n, hn⟩ : ∃ n, n = (A.take i).length := ⟨_, rfl⟩
      rw [← hn] at hv
      have HHR : Hid (∀ ty, (Builtin.append_ #[52, 52] ty #[v, .slice (some ⟨Y.heap.size + 1, 0, none⟩) 1 1]).run Try.prog ((Y.alloc (.cells #[.int .i64 k, .int .i64 t, .int .i64 er, .int .i64 ek, .int .i64 pr, .int .i64 pk] 56)).alloc (.cells #[.int .i64 k, .int .i64 t, .int .i64 er, .int .i64 ek, .int .i64 pr, .int .i64 pk] 56)) = .ok v6 w6) := hr6
      clear hd hdrop hget hext hY hc hn c67 hr6 hK6
      subst hv
      refine wpN_seq ?_
      refine wpN_comm (v := .tuple #[.int .i64 0, .bool true, .agg #[.int .i64 k, .int .i64 t, .int .i64 er, .int .i64 ek, .int .i64 pr, .int .i64 pk]]) (w' := Y) rfl rfl (fun b k' cs hb => (step_lone_select_recv_buf (c := cb) (z := .agg #[.int .i64 0, .int .i64 0, .int .i64 0, .int .i64 0, .int .i64 0, .int .i64 0]) (cap := 3) (buf := ((A.drop i).map acV).toArray) (closed := false) (s := s) (r := r) (tm := false) (stepG_comm (cases := #[rcase cb (.agg #[.int .i64 0, .int .i64 0, .int .i64 0, .int .i64 0, .int .i64 0, .int .i64 0])]) (blocking := false) (shape := .select) (w' := wr) rfl rfl hb (by simp [go_sem, execOp, rcase, Act.eval])) HC.out hpos).trans (by rw [HGET.out, HEXT.out, ← HY.out]; rfl)) ?_
      refine ops_val rfl rfl (v := .int .i64 0) (by simp [execOp, Act.eval, go_sem, Act.put, goInt]) ?_
      refine ops_val rfl rfl (v := .bool true) (by simp [execOp, Act.eval, go_sem, Act.put, goInt]) ?_
      simp only [wpOps, Act.put, List.setIfInBounds_toArray, List.set_cons_succ, List.set_cons_zero]
      show wpN _ _ _ _ _
      refine wpN_of ?_
      clear HC HGET HEXT HY hpos HE
      go_wp2_with (first | (at_builtin; refine wpList_runs rfl _ _ 52 rfl rfl rfl HHR.out ?_) | fail)
      refine ⟨⟨i + 1, v6, by omega, HK6.out, _, _, _, _, _, _, _, _, _, _, _, _, _, _, rfl⟩, ?_⟩
      show boxLen cb w6 < boxLen cb wr
      rw [HK6.out.len, HBL.out]
      omega
    · have hie : i = A.length := by omega
      subst hie
      have hnil : ((A.drop A.length).map acV).toArray = #[] := by rw [List.drop_of_length_le (by omega)]; rfl
      rw [hnil] at hc
      have HC : Hid (wr.heap[cb]? = some (.chan 3 #[] false s r false)) := hc
      have hE := HE.out
      have HO : Hid (wr.ownsRow w.heap.size 56 6 v A.length (flatA A)) := show wr.ownsRow w.heap.size 56 6 v A.length (flatA A) from by have := hE.ow; rwa [List.take_length] at this
      have HM : Hid (MM L mb cb x [] wr) := show MM L mb cb x [] wr from by have := hE.mm; rwa [List.drop_of_length_le (Nat.le_refl _)] at this
      have HH : Hid (Chg (mown mb cb) w wr) := hE.ch
      clear hc hnil c67 HE hE
      refine wpN_seq ?_
      refine wpN_comm rfl rfl (fun b k cs hb => step_lone_select_default (c := cb) (z := .agg #[.int .i64 0, .int .i64 0, .int .i64 0, .int .i64 0, .int .i64 0, .int .i64 0]) (cap := 3) (s := s) (r := r) (tm := false) (stepG_comm (cases := #[rcase cb (.agg #[.int .i64 0, .int .i64 0, .int .i64 0, .int .i64 0, .int .i64 0, .int .i64 0])]) (blocking := false) (shape := .select) (w' := wr) rfl rfl hb (by simp [go_sem, execOp, rcase, Act.eval])) HC.out) ?_
      refine ops_val rfl rfl (v := .int .i64 (-1)) (by simp [execOp, Act.eval, go_sem, Act.put, goInt]) ?_
      refine ops_val rfl rfl (v := .bool false) (by simp [execOp, Act.eval, go_sem, Act.put, goInt]) ?_
      simp only [wpOps, Act.put, List.setIfInBounds_toArray, List.set_cons_succ, List.set_cons_zero]
      show wpN _ _ _ _ _
      refine wpN_of ?_
      go_wp2_with fail
      go_ret
      exact ⟨_, rfl, HO.out, HM.out, HH.out⟩
end Go.Proofs.Ytjojhhkbebddmaa
