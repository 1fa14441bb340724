import Derived.Test.YtneiomimjgfbpaaRefY1
import Derived.Test.YtneiomimjgfbpaaRefY3
import Derived.Test.YtneiomimjgfbpaaRefY4
import Derived.Test.YtneiomimjgfbpaaJD
import Derived.Test.YtneiomimjgfbpaaJL
import Derived.Test.YtneiomimjgfbpaaJG
namespace Go.Proofs.Ytneiomimjgfbpaa
open Go.RowKit Go.PlainAid
theorem rvalid_any (m : Msg) (ao : Option Addr) (cv : Nat) (w : World) (hl : m.name.length ≤ 140737488355328) (hol : m.oname.length ≤ 140737488355328) (hsrc : VFrom w ao m.views) (hsb : ∀ b o, ao = some ⟨b, o, none⟩ → b < w.heap.size) (hnm : ∀ x ∈ m.views, x.name.length ≤ 140737488355328) :
    Calls Try.prog 23 #[.agg (msgCells m (.slice ao m.views.length cv))] w (fun e w' => e = .returned (.bool (validB m)) ∧ Below w.heap.size w w') := by
  generalize hD : msgCells m (.slice ao m.views.length cv) = D
  have HD : Hid _ := hD
  cases hin : inB m.kind 1 10
  · exact rvalid_wrong m ao cv w D HD hl hol hsrc hsb hnm hin
  cases hal : alikeB m (shapeM m)
  · exact rvalid_shape m ao cv w D HD hl hol hsrc hsb hnm hin hal
  have hk : 1 ≤ m.kind ∧ m.kind ≤ 10 := by simpa [inB] using hin
  by_cases h1 : m.kind = 1
  · exact rvalid1 m ao cv w D HD hl hol hsrc hsb hnm h1 hin hal
  by_cases h2 : m.kind = 2
  · by_cases hq0 : m.err = 0
    · exact rvalid2a m ao cv w D HD hl hol hsrc hsb hnm h2 hq0 hin hal
    · by_cases hq1 : m.err = 101
      · exact rvalid2b m ao cv w D HD hl hol hsrc hsb hnm h2 hq0 hq1 hin hal
      · exact rvalid2c m ao cv w D HD hl hol hsrc hsb hnm h2 hq0 hq1 hin hal
  by_cases h10 : m.kind = 10
  · exact rvalid10 m ao cv w D HD hl hol hsrc hsb hnm h10 hin hal
  by_cases h7 : m.kind = 7
  · exact rvalidB m ao cv w D HD hl hol hsrc hsb hnm h7 hin hal
  by_cases h6 : m.kind ≤ 6
  · exact rvalidA m ao cv w D HD hl hol hsrc hsb hnm (by omega) h6 hin hal
  · exact rvalidC m ao cv w D HD hl hol hsrc hsb hnm (by omega) (by omega) hin hal
end Go.Proofs.Ytneiomimjgfbpaa
namespace Go.Proofs.Ytneiomimjgfbpaa
open Go.RowKit Go.PlainAid
end Go.Proofs.Ytneiomimjgfbpaa
namespace Go.Proofs.Ytneiomimjgfbpaa
open Go.RowKit Go.PlainAid
set_option linter.unusedSimpArgs false
set_option linter.unusedVariables false
set_option maxRecDepth 100000 in
set_option maxHeartbeats 1600000 in
theorem renc_no (m : Msg) (ao : Option Addr) (cv : Nat) (w : World) (hl : m.name.length ≤ 140737488355328) (hol : m.oname.length ≤ 140737488355328) (hsrc : VFrom w ao m.views) (hsb : ∀ b o, ao = some ⟨b, o, none⟩ → b < w.heap.size) (hnm : ∀ x ∈ m.views, x.name.length ≤ 140737488355328) (hv : validB m = false) :
    Calls Try.prog 62 #[.agg (msgCells m (.slice ao m.views.length cv))] w (EncPost none w) := by
  have hb0 : ∀ D, Below w.heap.size w (w.alloc (.cells D 35)) := fun D => (Below.refl _ _).alloc (Nat.le_refl _) _
  have hr := rvalid_any m ao cv (w.alloc (.cells (msgCells m (.slice ao m.views.length cv)) 35)) hl hol (hsrc.keep fun b o e => (hb0 _).block b (hsb b o e)) (fun b o e => by rw [World.size_alloc]; have := hsb b o e; omega) hnm
  rw [hv] at hr
  have hsz : (msgCells m (.slice ao m.views.length cv)).size = 20 := rfl
  generalize msgCells m (.slice ao m.views.length cv) = D at *
  have hi : (Try.prog.info? 35).map (·.size) = some D.size := by rw [hsz]; kernel_rfl
  have hB : Blk (w.alloc (.cells D 35)) w.heap.size D 35 := heap_alloc_new w _
  have HH : Hid _ := And.intro hr hb0
  clear hr hb0 hsrc hsb hnm hl hol
  go_enter Try.func62, Try.ntmps62
  go_wp2_with (first | (refine wpList_load_row rfl 35 (.tmp 1) rfl w.heap.size rfl 35 D (0, 0) _ hB Try.underlying35 rfl hi ?_) | (go_at_call 23; refine Calls.mono HH.out.1 ?_; rintro e5 W0 ⟨rfl, hb5⟩) | fail)
  go_ret2
  exact ⟨(HH.out.2 _).trans (hb5.mono (HH.out.2 _).size), rfl⟩
end Go.Proofs.Ytneiomimjgfbpaa
namespace Go.Proofs.Ytneiomimjgfbpaa
open Go.RowKit Go.PlainAid
set_option linter.unusedSimpArgs false
set_option linter.unusedVariables false
set_option maxRecDepth 100000 in
set_option maxHeartbeats 1600000 in
theorem renc_1 (m : Msg) (ao : Option Addr) (cv : Nat) (w : World) (hf : Fit m) (hsrc : VFrom w ao m.views) (hsb : ∀ b o, ao = some ⟨b, o, none⟩ → b < w.heap.size) (hv : validB m = true) (hk : m.kind = 1) :
    Calls Try.prog 62 #[.agg (msgCells m (.slice ao m.views.length cv))] w (EncPost (message.wr m) w) := by
  have hco : callB m.session m.id = true ∧ opB m.okind m.oname = true := by
    have h := hv
    unfold validB at h
    rw [if_pos hk] at h
    simp only [Bool.and_eq_true] at h
    exact h.2
  obtain ⟨hc, ho⟩ := hco
  obtain ⟨qm, qn, eqm, eqn, hm1, hm2, hw1⟩ := call_put hc
  obtain ⟨kn, ekn, hk11, hs16, hw2⟩ := op_put (a := m.oa) (b := m.ob) ho hf.a1 hf.a2 hf.b1 hf.b2
  have hwr : message.wr m = some (put 1 ++ ((put qm ++ put qn) ++ (put kn ++ ((put m.oname.length ++ m.oname) ++ (put (zig m.oa) ++ put (zig m.ob)))))) := by
    have hs : (message.wr m).isSome = true := by rw [validB_is m hf.a1 hf.a2 hf.b1 hf.b2, hv]
    have hb : bodyW m = some ((put qm ++ put qn) ++ (put kn ++ ((put m.oname.length ++ m.oname) ++ (put (zig m.oa) ++ put (zig m.ob))))) := by
      unfold bodyW
      rw [if_pos hk, hw1, hw2]
      rfl
    have hn : (num 1 10).wr m.kind = some (put 1) := by rw [hk]; exact num_put (by decide)
    rw [enc_is] at hs ⊢
    unfold encM fieldsW at hs ⊢
    rw [hb, hn] at hs ⊢
    simp only [join] at hs ⊢
    split at hs
    · rename_i h; rw [if_pos h]
    · cases hs
  rw [hwr]
  have hl := hf.name
  have hol := hf.oname
  have hnm := hf.names
  have hb0 : ∀ D, Below w.heap.size w (w.alloc (.cells D 35)) := fun D => (Below.refl _ _).alloc (Nat.le_refl _) _
  have hr := rvalid_any m ao cv (w.alloc (.cells (msgCells m (.slice ao m.views.length cv)) 35)) hl hol (hsrc.keep fun b o e => (hb0 _).block b (hsb b o e)) (fun b o e => by rw [World.size_alloc]; have := hsb b o e; omega) hnm
  rw [hv] at hr
  have hsz : (msgCells m (.slice ao m.views.length cv)).size = 20 := rfl
  have hDs : ∀ W b, Blk W b (msgCells m (.slice ao m.views.length cv)) 35 → W.cell? ⟨b, 11, none⟩ = some (.int .i64 (qm : Nat)) ∧ W.cell? ⟨b, 12, none⟩ = some (.int .i64 (qn : Nat)) ∧ W.cell? ⟨b, 13, none⟩ = some (.int .i64 (kn : Nat)) ∧ W.cell? ⟨b, 14, none⟩ = some (.string ⟨m.oname.toArray⟩) ∧ W.cell? ⟨b, 15, none⟩ = some (.int .i64 m.oa) ∧ W.cell? ⟨b, 16, none⟩ = some (.int .i64 m.ob) := by
    intro W b h
    rw [← eqm, ← eqn, ← ekn]
    exact ⟨h.cell 11, h.cell 12, h.cell 13, h.cell 14, h.cell 15, h.cell 16⟩
  have hD0 : (msgCells m (.slice ao m.views.length cv))[0]? = some (.int .i64 1) := by rw [← hk]; rfl
  generalize hD : msgCells m (.slice ao m.views.length cv) = D at *
  have hi : (Try.prog.info? 35).map (·.size) = some D.size := by rw [hsz]; kernel_rfl
  have hB : Blk (w.alloc (.cells D 35)) w.heap.size D 35 := heap_alloc_new w _
  have HH : Hid _ := And.intro hr (And.intro hb0 hDs)
  clear hr hb0 hsrc hsb hnm hl hol hD hDs hwr hw1 hw2 hc ho hv hk
  go_enter Try.func62, Try.ntmps62
  go_wp2_with (first | (refine wpList_load_row rfl 35 (.tmp 1) rfl w.heap.size rfl 35 D (0, 0) _ hB Try.underlying35 rfl hi ?_) | fail)
  refine Calls.mono HH.out.1 ?_
  rintro e5 W0 ⟨rfl, hb5⟩
  have hB0 : Blk W0 w.heap.size D 35 := (hb5.block _ hB.lt).trans hB
  have hL0 : Below w.heap.size w W0 := (HH.out.2.1 _).trans (hb5.mono (HH.out.2.1 _).size)
  have G0 : WG W0 w.heap.size (.slice none 0 0) [(w.heap.size, D, 35)] (.slice none 0 0) [] W0 := WG.of (World.ownsRow_nil _ _ _ _) hL0.size (fun x hx => by simp only [List.mem_cons, List.not_mem_nil, or_false] at hx; rw [hx]; exact hB0) (fun x _ e => by cases e)
  have hp := plain_step G0 [1] #[.int .i64 1] rfl (by intro x hx; simp at hx; omega) (by simp)
  have c0 : W0.cell? ⟨w.heap.size, 0, none⟩ = some (.int .i64 1) := (hB0.cell 0).trans hD0
  have HP : Hid _ := And.intro hp (And.intro hL0 G0)
  clear hp hL0 G0 hB hb5 hB0
  go_wp2_with fail
  refine (show Calls Try.prog 83 #[.slice none 0 0, .slice (some ⟨W0.heap.size, 0, none⟩) 1 1] _ _ from HP.out.1).mono ?_
  rintro e1 w1 ⟨v1, rfl, G1⟩
  have hB1 : Blk w1 w.heap.size D 35 := G1.cx _ List.mem_cons_self
  have c1 : w1.cell? ⟨w.heap.size, 0, none⟩ = some (.int .i64 1) := (hB1.cell 0).trans hD0
  have HG : Hid _ := G1
  clear G1 hB1 c0
  go_wp2_with fail
  rename_i K hK
  have hL0 := HP.out.2.1
  have hDs := HH.out.2.2
  have G0 := HG.out
  have hBX : ∃ BX, BX = [(w.heap.size, D, (35 : TypeId))] := ⟨_, rfl⟩
  obtain ⟨BX, hBX⟩ := hBX
  rw [← hBX] at G0
  have hc1 : ∀ wr, CX BX wr → Blk wr w.heap.size D 35 := fun wr hwr => hwr _ (by rw [hBX]; exact List.mem_cons_self)
  have hp1 : plainW [1] = put 1 := by simp [plainW]
  rw [hp1, List.nil_append] at G0
  have hl0 := (put_len 1 (by omega)).2.1
  have hl1 := (put_len qm (by omega)).2.1
  have hl2 := (put_len qn (by omega)).2.1
  have ha1 := hf.a1
  have ha2 := hf.a2
  have hb1 := hf.b1
  have hb2 := hf.b2
  clear HG HP HH hBX hp1 c1
  refine wp_region_mix (CX BX) (fun i => i == 3 || i == 6) (by kernel_rfl) (by kernel_rfl) (by kernel_rfl) ?_
  replace G0 := G0.drew
  generalize hYY : ({ w1 with drawn := w1.drawn + 1 } : World) = Y at *
  clear hYY
  refine withFrJ (N := 150) rfl ?_
  intro a0 f hF hff
  have h1 : f 1 = .pointer (some ⟨w.heap.size, 0, none⟩) := hff 1
  have h4 : f 4 = v1 := hff 4
  clear hff
  refine ly hF rfl G0.cx rfl (by omega) (wanted_none rfl) (v := v1) (fun wr hwr => by simp only [execOp, (hF.eval 4 (by omega)).trans (show _ = v1 from by simp [upd, h1, h4])]; rfl) fun a1 F1 => ?_
  refine ly F1 rfl G0.cx rfl (by omega) (wanted_none rfl) (v := Value.pointer (some ⟨w.heap.size, 11, none⟩)) (fun wr hwr => by simp only [execOp, (F1.eval 1 (by omega)).trans (show _ = Value.pointer (some ⟨w.heap.size, 0, none⟩) from by simp [upd, h1, h4])]; simp [go_sem]) fun a2 F2 => ?_
  refine ly F2 rfl G0.cx rfl (by omega) (wanted_none rfl) (v := Value.agg #[Value.int .i64 (qm : Nat), .int .i64 (qn : Nat)]) (fun wr hwr => by simp only [execOp, (F2.eval 19 (by omega)).trans (show _ = Value.pointer (some ⟨w.heap.size, 11, none⟩) from by simp [upd, h1, h4])]; simp [go_sem, (hDs wr _ (hc1 wr hwr)).1, (hDs wr _ (hc1 wr hwr)).2.1]) fun a3 F3 => ?_
  refine lc F3 rfl G0.cx rfl (by omega) (wanted_none rfl) (g := 89) (args := #[v1, Value.agg #[Value.int .i64 (qm : Nat), .int .i64 (qn : Nat)]]) (by simp only [execOp, resolve, invoke, List.map_toArray, List.map_cons, List.map_nil, (F3.eval 18 (by omega)).trans (show _ = v1 from by simp [upd, h1, h4]), (F3.eval 20 (by omega)).trans (show _ = Value.agg #[Value.int .i64 (qm : Nat), .int .i64 (qn : Nat)] from by simp [upd, h1, h4])]; simp [go_sem, Act.eval]) (putCall_step G0 qm qn hm1 hm2 (by omega)) ?_
  rintro e1 x1 ⟨v2, rfl, G1⟩
  refine ⟨v2, rfl, fun a4 F4 => ?_⟩
  refine ly F4 rfl G1.cx rfl (by omega) (wanted_none rfl) (v := Value.pointer (some ⟨w.heap.size, 13, none⟩)) (fun wr hwr => by simp only [execOp, (F4.eval 1 (by omega)).trans (show _ = Value.pointer (some ⟨w.heap.size, 0, none⟩) from by simp [upd, h1, h4])]; simp [go_sem]) fun a5 F5 => ?_
  refine ly F5 rfl G1.cx rfl (by omega) (wanted_none rfl) (v := Value.agg #[Value.int .i64 (kn : Nat), .string ⟨m.oname.toArray⟩, .int .i64 m.oa, .int .i64 m.ob]) (fun wr hwr => by simp only [execOp, (F5.eval 22 (by omega)).trans (show _ = Value.pointer (some ⟨w.heap.size, 13, none⟩) from by simp [upd, h1, h4])]; simp [go_sem, (hDs wr _ (hc1 wr hwr)).2.2.1, (hDs wr _ (hc1 wr hwr)).2.2.2.1, (hDs wr _ (hc1 wr hwr)).2.2.2.2.1, (hDs wr _ (hc1 wr hwr)).2.2.2.2.2]) fun a6 F6 => ?_
  refine lc F6 rfl G1.cx rfl (by omega) (wanted_none rfl) (g := 88) (args := #[v2, Value.agg #[Value.int .i64 (kn : Nat), .string ⟨m.oname.toArray⟩, .int .i64 m.oa, .int .i64 m.ob]]) (by simp only [execOp, resolve, invoke, List.map_toArray, List.map_cons, List.map_nil, (F6.eval 21 (by omega)).trans (show _ = v2 from by simp [upd, h1, h4]), (F6.eval 23 (by omega)).trans (show _ = Value.agg #[Value.int .i64 (kn : Nat), .string ⟨m.oname.toArray⟩, .int .i64 m.oa, .int .i64 m.ob] from by simp [upd, h1, h4])]; simp [go_sem, Act.eval]) (putOp_step G1 kn m.oname m.oa m.ob hk11 hs16 ha1 ha2 hb1 hb2 (by simp; omega)) ?_
  rintro e2 x2 ⟨v3, rfl, G2⟩
  refine ⟨v3, rfl, fun a7 F7 => ?_⟩
  refine ly F7 rfl G2.cx rfl (by omega) (wanted_none rfl) (v := v3) (fun wr hwr => by simp only [execOp, (F7.eval 24 (by omega)).trans (show _ = v3 from by simp [upd, h1, h4])]; rfl) fun a8 F8 => ?_
  refine ly F8 rfl G2.cx rfl (by omega) (wanted_none rfl) (v := Value.int .i64 0) (fun wr hwr => by simp [execOp, Act.eval]) fun a9 F9 => ?_
  refine ⟨G2.cx, ?_⟩
  obtain ⟨f', F', k2, k3⟩ : ∃ f' : Nat → Value, Fr 150 _ f' ∧ f' 2 = v3 ∧ f' 3 = Value.int .i64 0 := ⟨_, F9, by simp [upd, h1, h4], by simp [upd, h1, h4]⟩
  show K _ _
  apply hK
  rw [F'.lit, lit150 f', k2, k3]
  have hbY := G2.grew.below (base := w.heap.size) (by intro j e; cases e) (by have := hL0.size; omega)
  have hfin : EncPost (some (put 1 ++ ((put qm ++ put qn) ++ (put kn ++ ((put m.oname.length ++ m.oname) ++ (put (zig m.oa) ++ put (zig m.ob))))))) w (.returned (.tuple #[v3, .int .i64 0])) x2 := ⟨hL0.trans hbY, v3, rfl, by simpa [List.append_assoc] using G2.own⟩
  have HF : Hid _ := hfin
  clear hfin hbY G2 G1 G0 k2 k3 hK hDs hc1
  go_wp2
  go_ret2
  have hx := HF.out
  simp only [List.append_assoc] at hx
  exact hx
end Go.Proofs.Ytneiomimjgfbpaa
