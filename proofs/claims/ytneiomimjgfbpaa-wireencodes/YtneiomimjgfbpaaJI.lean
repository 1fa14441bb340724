import Derived.Test.YtneiomimjgfbpaaJG
import Derived.Test.YtneiomimjgfbpaaJJ
import Derived.Test.YtneiomimjgfbpaaJH
namespace Go.Proofs.Ytneiomimjgfbpaa
open Go.RowKit Go.PlainAid
set_option linter.unusedSimpArgs false
set_option linter.unusedVariables false
set_option maxRecDepth 100000 in
set_option maxHeartbeats 1600000 in
theorem enc8 {w W : World} {base b : Nat} {v0 v1 : Value} {BX : List (Nat × Array Value × TypeId)} {out s : List UInt8} {qm qn en : Nat} {Q : Exit → Act → World → Prop} {a0 : Act} {f : Nat → Value} (hF : Fr 150 a0 f) (h1 : f 1 = .pointer (some ⟨b, 0, none⟩)) (h4 : f 4 = v1) (G : WG w base v0 BX v1 out W)
    (hc1 : ∀ wr, CX BX wr → wr.cell? ⟨b, 11, none⟩ = some (.int .i64 (qm : Nat)) ∧ wr.cell? ⟨b, 12, none⟩ = some (.int .i64 (qn : Nat)) ∧ wr.cell? ⟨b, 1, none⟩ = some (.string ⟨s.toArray⟩) ∧ wr.cell? ⟨b, 17, none⟩ = some (.int .i64 (en : Nat))) (hs16 : s.length ≤ 16) (hm1 : qm ≤ 1099511627776) (hm2 : qn ≤ 1099511627776) (heb : en < 9223372036854775808) (hlo : out.length ≤ 700000)
    (hrest : ∀ (a' : Act) (f' : Nat → Value) (W' : World) (v' : Value), Fr 150 a' f' → f' 1 = .pointer (some ⟨b, 0, none⟩) → f' 4 = v' → WG w base v0 BX v' (out ++ (put qm ++ put qn) ++ (put s.length ++ s) ++ put en) W' → Q .normal a' W') :
    (Code.region 8 #[{ dst := some 27, op := Op.move (Operand.tmp 4), type := 22, pos := "wire.go:196", after := #[], guard := none },
      { dst := some 28, op := Op.fieldAddr 35 (Operand.tmp 1) 8, type := 0, pos := "wire.go:196", after := #[], guard := none },
      { dst := some 29, op := Op.load 29 (Operand.tmp 28), type := 29, pos := "wire.go:196", after := #[{ on := 1, ground := Ground.data }], guard := none },
      { dst := some 30, op := Op.call { callee := Callee.value (Operand.func 89), args := #[Operand.tmp 27, Operand.tmp 29], argTypes := #[22, 29] }, type := 22, pos := "wire.go:196", after := #[{ on := 0, ground := Ground.data }, { on := 2, ground := Ground.data }], guard := none },
      { dst := some 31, op := Op.fieldAddr 35 (Operand.tmp 1) 1, type := 0, pos := "wire.go:196", after := #[], guard := none },
      { dst := some 32, op := Op.load 9 (Operand.tmp 31), type := 9, pos := "wire.go:196", after := #[{ on := 4, ground := Ground.data }], guard := none },
      { dst := some 33, op := Op.call { callee := Callee.value (Operand.func 90), args := #[Operand.tmp 30, Operand.tmp 32], argTypes := #[22, 9] }, type := 22, pos := "wire.go:196", after := #[{ on := 3, ground := Ground.data }, { on := 5, ground := Ground.data }, { on := 3, ground := Ground.chain }], guard := none },
      { dst := some 34, op := Op.fieldAddr 35 (Operand.tmp 1) 10, type := 0, pos := "wire.go:196", after := #[], guard := none },
      { dst := some 35, op := Op.load 32 (Operand.tmp 34), type := 32, pos := "wire.go:196", after := #[{ on := 7, ground := Ground.data }], guard := none },
      { dst := some 36, op := Op.buildSlice 161 1 #[(0, Operand.tmp 35)], type := 161, pos := "wire.go:196", after := #[{ on := 8, ground := Ground.data }], guard := none },
      { dst := some 37, op := Op.call { callee := Callee.value (Operand.func 83), args := #[Operand.tmp 33, Operand.tmp 36], argTypes := #[22, 161] }, type := 22, pos := "wire.go:196", after := #[{ on := 6, ground := Ground.data }, { on := 9, ground := Ground.data }, { on := 6, ground := Ground.chain }], guard := none },
      { dst := some 4, op := Op.assign (Operand.tmp 37), type := 22, pos := "wire.go:196", after := #[{ on := 10, ground := Ground.data }, { on := 10, ground := Ground.chain }, { on := 0, ground := Ground.phase }, { on := 1, ground := Ground.phase }, { on := 2, ground := Ground.phase }, { on := 3, ground := Ground.phase }, { on := 4, ground := Ground.phase }, { on := 5, ground := Ground.phase }, { on := 6, ground := Ground.phase }, { on := 7, ground := Ground.phase }, { on := 8, ground := Ground.phase }, { on := 9, ground := Ground.phase }, { on := 10, ground := Ground.phase }], guard := none }] true).wp Try.prog Q a0 W := by
  have hp2 : plainW [en] = put en := by simp [plainW]
  have hls := (put_len s.length (by omega)).2.1
  have hl1 := (put_len qm (by omega)).2.1
  have hl2 := (put_len qn (by omega)).2.1
  refine Z.wp_region_plan (CX BX) (fun i => i == 3 || i == 6 || i == 9 || i == 10 || i == 12) 12 (.one 0 (.one 1 (.one 2 (.one 4 (.one 5 (.one 7 (.one 8 (.two 3 9 (.two 6 9 (.one 9 (.one 10 (.one 11 .done))) (.one 6 (.one 10 (.one 11 .done)))) (.one 3 (.one 6 (.one 10 (.one 11 .done)))))))))))) (by kernel_rfl) rfl (by kernel_rfl) (by kernel_rfl) rfl (by kernel_rfl) ?_
  have G0 := G.drew
  generalize hYY : ({ W with drawn := W.drawn + 1 } : World) = Y at *
  clear hYY
  refine Z.py rfl hF rfl G0.cx rfl (by omega) (wanted_none rfl) (v := v1) (fun wr hwr => by simp only [execOp, (hF.eval 4 (by omega)).trans (show _ = v1 from by simp [upd, h1, h4])]; rfl) fun a1 F1 => ?_
  refine Z.py rfl F1 rfl G0.cx rfl (by omega) (wanted_none rfl) (v := Value.pointer (some ⟨b, 11, none⟩)) (fun wr hwr => by simp only [execOp, (F1.eval 1 (by omega)).trans (show _ = Value.pointer (some ⟨b, 0, none⟩) from by simp [upd, h1, h4])]; simp [go_sem]) fun a2 F2 => ?_
  refine Z.py rfl F2 rfl G0.cx rfl (by omega) (wanted_none rfl) (v := Value.agg #[Value.int .i64 (qm : Nat), .int .i64 (qn : Nat)]) (fun wr hwr => by simp only [execOp, (F2.eval 28 (by omega)).trans (show _ = Value.pointer (some ⟨b, 11, none⟩) from by simp [upd, h1, h4])]; simp [go_sem, (hc1 wr hwr).1, (hc1 wr hwr).2.1]) fun a3 F3 => ?_
  refine Z.py rfl F3 rfl G0.cx rfl (by omega) (wanted_none rfl) (v := Value.pointer (some ⟨b, 1, none⟩)) (fun wr hwr => by simp only [execOp, (F3.eval 1 (by omega)).trans (show _ = Value.pointer (some ⟨b, 0, none⟩) from by simp [upd, h1, h4])]; simp [go_sem]) fun a4 F4 => ?_
  refine Z.py rfl F4 rfl G0.cx rfl (by omega) (wanted_none rfl) (v := Value.string ⟨s.toArray⟩) (fun wr hwr => by simp only [execOp, (F4.eval 31 (by omega)).trans (show _ = Value.pointer (some ⟨b, 1, none⟩) from by simp [upd, h1, h4])]; simp [go_sem, (hc1 wr hwr).2.2.1]) fun a5 F5 => ?_
  refine Z.py rfl F5 rfl G0.cx rfl (by omega) (wanted_none rfl) (v := Value.pointer (some ⟨b, 17, none⟩)) (fun wr hwr => by simp only [execOp, (F5.eval 1 (by omega)).trans (show _ = Value.pointer (some ⟨b, 0, none⟩) from by simp [upd, h1, h4])]; simp [go_sem]) fun a6 F6 => ?_
  refine Z.py rfl F6 rfl G0.cx rfl (by omega) (wanted_none rfl) (v := Value.int .i64 (en : Nat)) (fun wr hwr => by simp only [execOp, (F6.eval 34 (by omega)).trans (show _ = Value.pointer (some ⟨b, 17, none⟩) from by simp [upd, h1, h4])]; simp [go_sem, (hc1 wr hwr).2.2.2]) fun a7 F7 => ?_
  refine Z.pfork G0.cx ?_ ?_
  · refine Z.pc' rfl F7 rfl rfl (by omega) (wanted_none rfl) (g := 89) (args := #[v1, Value.agg #[Value.int .i64 (qm : Nat), .int .i64 (qn : Nat)]]) (by simp only [execOp, resolve, invoke, List.map_toArray, List.map_cons, List.map_nil, (F7.eval 27 (by omega)).trans (show _ = v1 from by simp [upd, h1, h4]), (F7.eval 29 (by omega)).trans (show _ = Value.agg #[Value.int .i64 (qm : Nat), .int .i64 (qn : Nat)] from by simp [upd, h1, h4])]; simp [go_sem, Act.eval]) (putCall_step G0 qm qn hm1 hm2 (by omega)) ?_
    rintro e9 x9 ⟨v9, rfl, G9⟩
    refine ⟨v9, rfl, fun a8 F8 => ?_⟩
    refine Z.pfork G9.cx ?_ ?_
    · refine Z.pc' rfl F8 rfl rfl (by omega) (wanted_none rfl) (g := 90) (args := #[v9, Value.string ⟨s.toArray⟩]) (by simp only [execOp, resolve, invoke, List.map_toArray, List.map_cons, List.map_nil, (F8.eval 30 (by omega)).trans (show _ = v9 from by simp [upd, h1, h4]), (F8.eval 32 (by omega)).trans (show _ = Value.string ⟨s.toArray⟩ from by simp [upd, h1, h4])]; simp [go_sem, Act.eval]) (text_step G9 s hs16 (by simp only [List.length_append]; omega)) ?_
      rintro e11 x11 ⟨v11, rfl, G11⟩
      refine ⟨v11, rfl, fun a10 F10 => ?_⟩
      refine Z.pe rfl F10 rfl G11.cx rfl (by omega) (wanted_none rfl) (v := Value.slice (some ⟨x11.heap.size, 0, none⟩) 1 1) (w1 := x11.alloc (.cells #[Value.int .i64 ((en : Nat) : Int)] 3)) (by simp only [execOp, List.map_toArray, List.map_cons, List.map_nil, (F10.eval 35 (by omega)).trans (show _ = Value.int .i64 (en : Nat) from by simp [upd, h1, h4])]; simp [go_sem]) fun a12 F12 => ?_
      have G13 := G11.box #[Value.int .i64 ((en : Nat) : Int)] 3
      refine Z.pc rfl F12 rfl G13.unbox.cx rfl (by omega) (wanted_none rfl) (g := 83) (args := #[v11, Value.slice (some ⟨x11.heap.size, 0, none⟩) 1 1]) (by simp only [execOp, resolve, invoke, List.map_toArray, List.map_cons, List.map_nil, (F12.eval 33 (by omega)).trans (show _ = v11 from by simp [upd, h1, h4]), (F12.eval 36 (by omega)).trans (show _ = Value.slice (some ⟨x11.heap.size, 0, none⟩) 1 1 from by simp [upd, h1, h4])]; simp [go_sem, Act.eval]) (plain_box G13 [en] rfl (by intro x hx; simp at hx; omega) (by simp only [List.length_append, List.length_cons, List.length_nil]; omega)) ?_
      rintro e15 x15 ⟨v15, rfl, G15⟩
      refine ⟨v15, rfl, fun a14 F14 => ?_⟩
      rw [hp2] at G15
      refine Z.py rfl F14 rfl G15.unbox.cx rfl (by omega) (wanted_none rfl) (v := v15) (fun wr hwr => by simp only [execOp, (F14.eval 37 (by omega)).trans (show _ = v15 from by simp [upd, h1, h4])]; rfl) fun a16 F16 => ?_
      refine Z.pdone (fun _ => G15.unbox.cx) ?_
      obtain ⟨f', F', k1, k4⟩ : ∃ f' : Nat → Value, Fr 150 _ f' ∧ f' 1 = Value.pointer (some ⟨b, 0, none⟩) ∧ f' 4 = v15 := ⟨_, F16, by simp [upd, h1, h4], by simp [upd, h1, h4]⟩
      exact hrest _ _ _ _ F' k1 k4 G15.unbox
    · refine Z.pe' rfl F8 rfl rfl (by omega) (wanted_none rfl) (v := Value.slice (some ⟨x9.heap.size, 0, none⟩) 1 1) (w1 := x9.alloc (.cells #[Value.int .i64 ((en : Nat) : Int)] 3)) (by simp only [execOp, List.map_toArray, List.map_cons, List.map_nil, (F8.eval 35 (by omega)).trans (show _ = Value.int .i64 (en : Nat) from by simp [upd, h1, h4])]; simp [go_sem]) fun a17 F17 => ?_
      have G18 := G9.box #[Value.int .i64 ((en : Nat) : Int)] 3
      refine Z.pc rfl F17 rfl G18.unbox.cx rfl (by omega) (wanted_none rfl) (g := 90) (args := #[v9, Value.string ⟨s.toArray⟩]) (by simp only [execOp, resolve, invoke, List.map_toArray, List.map_cons, List.map_nil, (F17.eval 30 (by omega)).trans (show _ = v9 from by simp [upd, h1, h4]), (F17.eval 32 (by omega)).trans (show _ = Value.string ⟨s.toArray⟩ from by simp [upd, h1, h4])]; simp [go_sem, Act.eval]) (text_step G18 s hs16 (by simp only [List.length_append]; omega)) ?_
      rintro e20 x20 ⟨v20, rfl, G20⟩
      refine ⟨v20, rfl, fun a19 F19 => ?_⟩
      refine Z.pc rfl F19 rfl G20.unbox.cx rfl (by omega) (wanted_none rfl) (g := 83) (args := #[v20, Value.slice (some ⟨x9.heap.size, 0, none⟩) 1 1]) (by simp only [execOp, resolve, invoke, List.map_toArray, List.map_cons, List.map_nil, (F19.eval 33 (by omega)).trans (show _ = v20 from by simp [upd, h1, h4]), (F19.eval 36 (by omega)).trans (show _ = Value.slice (some ⟨x9.heap.size, 0, none⟩) 1 1 from by simp [upd, h1, h4])]; simp [go_sem, Act.eval]) (plain_box G20 [en] rfl (by intro x hx; simp at hx; omega) (by simp only [List.length_append, List.length_cons, List.length_nil]; omega)) ?_
      rintro e22 x22 ⟨v22, rfl, G22⟩
      refine ⟨v22, rfl, fun a21 F21 => ?_⟩
      rw [hp2] at G22
      refine Z.py rfl F21 rfl G22.unbox.cx rfl (by omega) (wanted_none rfl) (v := v22) (fun wr hwr => by simp only [execOp, (F21.eval 37 (by omega)).trans (show _ = v22 from by simp [upd, h1, h4])]; rfl) fun a23 F23 => ?_
      refine Z.pdone (fun _ => G22.unbox.cx) ?_
      obtain ⟨f', F', k1, k4⟩ : ∃ f' : Nat → Value, Fr 150 _ f' ∧ f' 1 = Value.pointer (some ⟨b, 0, none⟩) ∧ f' 4 = v22 := ⟨_, F23, by simp [upd, h1, h4], by simp [upd, h1, h4]⟩
      exact hrest _ _ _ _ F' k1 k4 G22.unbox
  · refine Z.pe' rfl F7 rfl rfl (by omega) (wanted_none rfl) (v := Value.slice (some ⟨Y.heap.size, 0, none⟩) 1 1) (w1 := Y.alloc (.cells #[Value.int .i64 ((en : Nat) : Int)] 3)) (by simp only [execOp, List.map_toArray, List.map_cons, List.map_nil, (F7.eval 35 (by omega)).trans (show _ = Value.int .i64 (en : Nat) from by simp [upd, h1, h4])]; simp [go_sem]) fun a24 F24 => ?_
    have G25 := G0.box #[Value.int .i64 ((en : Nat) : Int)] 3
    refine Z.pc rfl F24 rfl G25.unbox.cx rfl (by omega) (wanted_none rfl) (g := 89) (args := #[v1, Value.agg #[Value.int .i64 (qm : Nat), .int .i64 (qn : Nat)]]) (by simp only [execOp, resolve, invoke, List.map_toArray, List.map_cons, List.map_nil, (F24.eval 27 (by omega)).trans (show _ = v1 from by simp [upd, h1, h4]), (F24.eval 29 (by omega)).trans (show _ = Value.agg #[Value.int .i64 (qm : Nat), .int .i64 (qn : Nat)] from by simp [upd, h1, h4])]; simp [go_sem, Act.eval]) (putCall_step G25 qm qn hm1 hm2 (by omega)) ?_
    rintro e27 x27 ⟨v27, rfl, G27⟩
    refine ⟨v27, rfl, fun a26 F26 => ?_⟩
    refine Z.pc rfl F26 rfl G27.unbox.cx rfl (by omega) (wanted_none rfl) (g := 90) (args := #[v27, Value.string ⟨s.toArray⟩]) (by simp only [execOp, resolve, invoke, List.map_toArray, List.map_cons, List.map_nil, (F26.eval 30 (by omega)).trans (show _ = v27 from by simp [upd, h1, h4]), (F26.eval 32 (by omega)).trans (show _ = Value.string ⟨s.toArray⟩ from by simp [upd, h1, h4])]; simp [go_sem, Act.eval]) (text_step G27 s hs16 (by simp only [List.length_append]; omega)) ?_
    rintro e29 x29 ⟨v29, rfl, G29⟩
    refine ⟨v29, rfl, fun a28 F28 => ?_⟩
    refine Z.pc rfl F28 rfl G29.unbox.cx rfl (by omega) (wanted_none rfl) (g := 83) (args := #[v29, Value.slice (some ⟨Y.heap.size, 0, none⟩) 1 1]) (by simp only [execOp, resolve, invoke, List.map_toArray, List.map_cons, List.map_nil, (F28.eval 33 (by omega)).trans (show _ = v29 from by simp [upd, h1, h4]), (F28.eval 36 (by omega)).trans (show _ = Value.slice (some ⟨Y.heap.size, 0, none⟩) 1 1 from by simp [upd, h1, h4])]; simp [go_sem, Act.eval]) (plain_box G29 [en] rfl (by intro x hx; simp at hx; omega) (by simp only [List.length_append, List.length_cons, List.length_nil]; omega)) ?_
    rintro e31 x31 ⟨v31, rfl, G31⟩
    refine ⟨v31, rfl, fun a30 F30 => ?_⟩
    rw [hp2] at G31
    refine Z.py rfl F30 rfl G31.unbox.cx rfl (by omega) (wanted_none rfl) (v := v31) (fun wr hwr => by simp only [execOp, (F30.eval 37 (by omega)).trans (show _ = v31 from by simp [upd, h1, h4])]; rfl) fun a32 F32 => ?_
    refine Z.pdone (fun _ => G31.unbox.cx) ?_
    obtain ⟨f', F', k1, k4⟩ : ∃ f' : Nat → Value, Fr 150 _ f' ∧ f' 1 = Value.pointer (some ⟨b, 0, none⟩) ∧ f' 4 = v31 := ⟨_, F32, by simp [upd, h1, h4], by simp [upd, h1, h4]⟩
    exact hrest _ _ _ _ F' k1 k4 G31.unbox
end Go.Proofs.Ytneiomimjgfbpaa
namespace Go.Proofs.Ytneiomimjgfbpaa
open Go.RowKit Go.PlainAid
set_option linter.unusedSimpArgs false
set_option linter.unusedVariables false
set_option maxRecDepth 100000 in
set_option maxHeartbeats 3200000 in
theorem renc_2n (m : Msg) (ao : Option Addr) (cv : Nat) (w : World) (hf : Fit m) (hsrc : VFrom w ao m.views) (hsb : ∀ b o, ao = some ⟨b, o, none⟩ → b < w.heap.size) (hv : validB m = true) (hk : m.kind = 2) (hcap : hasCap m.err = false) :
    Calls Try.prog 62 #[.agg (msgCells m (.slice ao m.views.length cv))] w (EncPost (message.wr m) w) := by
  have hco : callB m.session m.id = true ∧ nameB m.name = true ∧ inB m.err 0 255 = true := by
    have h := hv
    unfold validB at h
    rw [if_neg (by omega), if_neg (by omega), if_pos hk, if_neg (by rw [hcap]; simp)] at h
    simp only [Bool.and_eq_true] at h
    exact ⟨h.2.1.1, h.2.1.2, h.2.2⟩
  obtain ⟨hc, hn1, hn2⟩ := hco
  have wn := name_put hn1
  have hs16 : m.name.length ≤ 16 := by simp only [nameB, Bool.and_eq_true, decide_eq_true_eq] at hn1; omega
  obtain ⟨qm, qn, eqm, eqn, hm1, hm2, hw1⟩ := call_put hc
  have we := num_put (lo := 0) (hi := 255) hn2
  obtain ⟨en, een, ten, ben⟩ := in_nat (lo := 0) (hi := 255) hn2
  rw [ten] at we
  have hen : (en : Int) ≠ 0 ∧ (en : Int) ≠ 101 := by
    rw [een] at hcap
    simpa [hasCap] using hcap
  have hwr : message.wr m = some (put 2 ++ ((put qm ++ put qn) ++ ((put m.name.length ++ m.name) ++ put en))) := by
    have hs : (message.wr m).isSome = true := by rw [validB_is m hf.a1 hf.a2 hf.b1 hf.b2, hv]
    have hb : bodyW m = some ((put qm ++ put qn) ++ ((put m.name.length ++ m.name) ++ put en)) := by
      unfold bodyW
      rw [if_neg (by omega), if_pos hk, if_neg (by rw [hcap]; simp), hw1, wn, (show errno.wr m.err = _ from we)]
      rfl
    have hn : (num 1 10).wr m.kind = some (put 2) := by rw [hk]; exact num_put (by decide)
    rw [enc_is] at hs ⊢
    unfold encM fieldsW at hs ⊢
    rw [hb, hn] at hs ⊢
    simp only [join] at hs ⊢
    split at hs
    · rename_i h; rw [if_pos h]
    · cases hs
  rw [hwr]
  have hl := hf.name
  have hol := hf.oname
  have hnm := hf.names
  have hb0 : ∀ D, Below w.heap.size w (w.alloc (.cells D 35)) := fun D => (Below.refl _ _).alloc (Nat.le_refl _) _
  have hr := rvalid_any m ao cv (w.alloc (.cells (msgCells m (.slice ao m.views.length cv)) 35)) hl hol (hsrc.keep fun b o e => (hb0 _).block b (hsb b o e)) (fun b o e => by rw [World.size_alloc]; have := hsb b o e; omega) hnm
  rw [hv] at hr
  have hsz : (msgCells m (.slice ao m.views.length cv)).size = 20 := rfl
  have hDs : ∀ W b, Blk W b (msgCells m (.slice ao m.views.length cv)) 35 → W.cell? ⟨b, 1, none⟩ = some (.string ⟨m.name.toArray⟩) ∧ W.cell? ⟨b, 11, none⟩ = some (.int .i64 (qm : Nat)) ∧ W.cell? ⟨b, 12, none⟩ = some (.int .i64 (qn : Nat)) ∧ W.cell? ⟨b, 17, none⟩ = some (.int .i64 (en : Nat)) := by
    intro W b h
    rw [← eqm, ← eqn, ← een]
    exact ⟨h.cell 1, h.cell 11, h.cell 12, h.cell 17⟩
  have hD0 : (msgCells m (.slice ao m.views.length cv))[0]? = some (.int .i64 2) := by rw [← hk]; rfl
  generalize hD : msgCells m (.slice ao m.views.length cv) = D at *
  have hi : (Try.prog.info? 35).map (·.size) = some D.size := by rw [hsz]; kernel_rfl
  have hB : Blk (w.alloc (.cells D 35)) w.heap.size D 35 := heap_alloc_new w _
  have HH : Hid _ := And.intro hr (And.intro hb0 hDs)
  have H0 : Hid _ := hD0
  clear hr hb0 hsrc hsb hnm hl hol hD hDs hwr wn we hw1 hn1 hn2 hc hcap ten hv hk hD0 eqm eqn een
  go_enter Try.func62, Try.ntmps62
  go_wp2_with (first | (refine wpList_load_row rfl 35 (.tmp 1) rfl w.heap.size rfl 35 D (0, 0) _ hB Try.underlying35 rfl hi ?_) | fail)
  refine Calls.mono HH.out.1 ?_
  rintro e5 W0 ⟨rfl, hb5⟩
  have hB0 : Blk W0 w.heap.size D 35 := (hb5.block _ hB.lt).trans hB
  have hL0 : Below w.heap.size w W0 := (HH.out.2.1 _).trans (hb5.mono (HH.out.2.1 _).size)
  obtain ⟨BX, hBX⟩ : ∃ BX, BX = [(w.heap.size, D, (35 : TypeId))] := ⟨_, rfl⟩
  have hcx : ∀ wr, CX BX wr → Blk wr w.heap.size D 35 := fun wr hwr => hwr _ (by rw [hBX]; exact List.mem_cons_self)
  have G0 : WG W0 w.heap.size (.slice none 0 0) BX (.slice none 0 0) [] W0 := WG.of (World.ownsRow_nil _ _ _ _) hL0.size (fun x hx => by rw [hBX] at hx; simp only [List.mem_cons, List.not_mem_nil, or_false] at hx; rw [hx]; exact hB0) (fun x _ e => by cases e)
  have hp := plain_step G0 [2] #[.int .i64 2] rfl (by intro x hx; simp at hx; omega) (by simp)
  rw [show plainW [2] = put 2 from by simp [plainW], List.nil_append] at hp
  have c0 : W0.cell? ⟨w.heap.size, 0, none⟩ = some (.int .i64 2) := (hB0.cell 0).trans H0.out
  have HP : Hid _ := And.intro hp (And.intro hL0 hcx)
  clear hp hL0 G0 hB hb5 hB0 hBX hcx
  go_wp2_with fail
  refine (show Calls Try.prog 83 #[.slice none 0 0, .slice (some ⟨W0.heap.size, 0, none⟩) 1 1] _ _ from HP.out.1).mono ?_
  rintro e1 w1 ⟨v1, rfl, G1⟩
  have c1 : w1.cell? ⟨w.heap.size, 0, none⟩ = some (.int .i64 2) := ((HP.out.2.2 _ G1.cx).cell 0).trans H0.out
  have HG : Hid _ := G1
  clear G1 c0
  go_wp2_with fail
  rename_i K hK
  have hlk := (put_len 2 (by omega)).2.1
  refine enc8 (s := m.name) (qm := qm) (qn := qn) (en := en) (Fr.ofLit _ rfl) rfl rfl HG.out (fun wr hwr => ?_) hs16 hm1 hm2 (by omega) (by omega) ?_
  · have h := HH.out.2.2 wr _ (HP.out.2.2 wr hwr)
    exact ⟨h.2.1, h.2.2.1, h.1, h.2.2.2⟩
  intro a2 f2 W2 v2 F2 k1 k4 G2
  refine hK _ _ ?_
  clear hK HG c1
  rw [F2.lit, lit150 f2, k1, k4]
  have hl20 : (put 2 ++ (put qm ++ put qn) ++ (put m.name.length ++ m.name) ++ put en).length ≤ 100 := by
    have h1 := (put_len qm (by omega)).2.1
    have h2 := (put_len qn (by omega)).2.1
    have h3 := (put_len m.name.length (by omega)).2.1
    have h4 := (put_len en (by omega)).2.1
    simp only [List.length_append]
    omega
  have hc2 := HP.out.2.2 _ G2.cx
  have d2 : W2.cell? ⟨w.heap.size, 17, none⟩ = some (.int .i64 (en : Nat)) := by have h := HH.out.2.2 _ _ hc2; exact h.2.2.2
  have hbY := G2.grew.below (base := w.heap.size) (by intro j e; cases e) (by have := HP.out.2.1.size; omega)
  have hfin : EncPost (some (put 2 ++ ((put qm ++ put qn) ++ ((put m.name.length ++ m.name) ++ put en)))) w (.returned (.tuple #[v2, .int .i64 0])) W2 := ⟨HP.out.2.1.trans hbY, v2, rfl, by simpa [List.append_assoc] using G2.own⟩
  have HF : Hid _ := hfin
  obtain ⟨hx0, hx1⟩ := hen
  clear hfin hbY G2 hc2
  have hy0 : en ≠ 0 := by omega
  have hy1 : en ≠ 101 := by omega
  have hz0 : ((en : Int) == 0) = false := by simpa using hy0
  have hz1 : ((en : Int) == 101) = false := by simpa using hx1
  go_wp2
  go_ret2
  have hx := HF.out
  simp only [List.append_assoc] at hx ⊢
  exact hx
end Go.Proofs.Ytneiomimjgfbpaa
namespace Go.Proofs.Ytneiomimjgfbpaa
open Go.RowKit Go.PlainAid
set_option linter.unusedSimpArgs false
set_option linter.unusedVariables false
set_option maxRecDepth 100000 in
set_option maxHeartbeats 3200000 in
theorem renc_2c (m : Msg) (ao : Option Addr) (cv : Nat) (w : World) (hf : Fit m) (hsrc : VFrom w ao m.views) (hsb : ∀ b o, ao = some ⟨b, o, none⟩ → b < w.heap.size) (hv : validB m = true) (hk : m.kind = 2) (en : Nat) (een : m.err = (en : Nat)) (hen : en = 0 ∨ en = 101) :
    Calls Try.prog 62 #[.agg (msgCells m (.slice ao m.views.length cv))] w (EncPost (message.wr m) w) := by
  have hcap : hasCap m.err = true := by rw [een]; rcases hen with rfl | rfl <;> rfl
  have hco : callB m.session m.id = true ∧ nameB m.name = true ∧ inB m.cap 1 1099511627776 = true ∧ inB m.recaps 0 1099511627776 = true := by
    have h := hv
    unfold validB at h
    rw [if_neg (by omega), if_neg (by omega), if_pos hk, if_pos hcap] at h
    simp only [knownB, Bool.and_eq_true] at h
    exact ⟨h.2.1, h.2.2.1.1, h.2.2.1.2, h.2.2.2⟩
  obtain ⟨hc, hn1, hn2, hn3⟩ := hco
  have wn := name_put hn1
  have hs16 : m.name.length ≤ 16 := by simp only [nameB, Bool.and_eq_true, decide_eq_true_eq] at hn1; omega
  obtain ⟨qm, qn, eqm, eqn, hm1, hm2, hw1⟩ := call_put hc
  obtain ⟨c, ec, bc, r, er, br, wc⟩ := two_put (lo := 1) (hi := 1099511627776) (lo' := 0) (hi' := 1099511627776) hn2 hn3
  have we : (num 0 255).wr m.err = some (put en) := by
    have := num_put (lo := 0) (hi := 255) (x := m.err) (by rw [een]; simp only [inB, Bool.and_eq_true, decide_eq_true_eq]; omega)
    rwa [een, Int.toNat_natCast, ← een] at this
  have hwr : message.wr m = some (put 2 ++ ((put qm ++ put qn) ++ ((put m.name.length ++ m.name) ++ (put en ++ (put c ++ put r))))) := by
    have hs : (message.wr m).isSome = true := by rw [validB_is m hf.a1 hf.a2 hf.b1 hf.b2, hv]
    have hb : bodyW m = some ((put qm ++ put qn) ++ ((put m.name.length ++ m.name) ++ (put en ++ (put c ++ put r)))) := by
      unfold bodyW
      rw [if_neg (by omega), if_pos hk, if_pos hcap, hw1, wn, (show errno.wr m.err = _ from we), (show caps.wr (m.cap, m.recaps) = _ from wc)]
      rfl
    have hn : (num 1 10).wr m.kind = some (put 2) := by rw [hk]; exact num_put (by decide)
    rw [enc_is] at hs ⊢
    unfold encM fieldsW at hs ⊢
    rw [hb, hn] at hs ⊢
    simp only [join] at hs ⊢
    split at hs
    · rename_i h; rw [if_pos h]
    · cases hs
  rw [hwr]
  have hl := hf.name
  have hol := hf.oname
  have hnm := hf.names
  have hb0 : ∀ D, Below w.heap.size w (w.alloc (.cells D 35)) := fun D => (Below.refl _ _).alloc (Nat.le_refl _) _
  have hr := rvalid_any m ao cv (w.alloc (.cells (msgCells m (.slice ao m.views.length cv)) 35)) hl hol (hsrc.keep fun b o e => (hb0 _).block b (hsb b o e)) (fun b o e => by rw [World.size_alloc]; have := hsb b o e; omega) hnm
  rw [hv] at hr
  have hsz : (msgCells m (.slice ao m.views.length cv)).size = 20 := rfl
  have hDs : ∀ W b, Blk W b (msgCells m (.slice ao m.views.length cv)) 35 → W.cell? ⟨b, 1, none⟩ = some (.string ⟨m.name.toArray⟩) ∧ W.cell? ⟨b, 11, none⟩ = some (.int .i64 (qm : Nat)) ∧ W.cell? ⟨b, 12, none⟩ = some (.int .i64 (qn : Nat)) ∧ W.cell? ⟨b, 17, none⟩ = some (.int .i64 (en : Nat)) ∧ W.cell? ⟨b, 2, none⟩ = some (.int .i64 (c : Nat)) ∧ W.cell? ⟨b, 3, none⟩ = some (.int .i64 (r : Nat)) := by
    intro W b h
    rw [← eqm, ← eqn, ← een, ← ec, ← er]
    exact ⟨h.cell 1, h.cell 11, h.cell 12, h.cell 17, h.cell 2, h.cell 3⟩
  have hD0 : (msgCells m (.slice ao m.views.length cv))[0]? = some (.int .i64 2) := by rw [← hk]; rfl
  generalize hD : msgCells m (.slice ao m.views.length cv) = D at *
  have hi : (Try.prog.info? 35).map (·.size) = some D.size := by rw [hsz]; kernel_rfl
  have hB : Blk (w.alloc (.cells D 35)) w.heap.size D 35 := heap_alloc_new w _
  have HH : Hid _ := And.intro hr (And.intro hb0 hDs)
  have H0 : Hid _ := hD0
  clear hr hb0 hsrc hsb hnm hl hol hD hDs hwr wn we wc hw1 hn1 hn2 hn3 hc hcap hv hk hD0 eqm eqn een ec er
  go_enter Try.func62, Try.ntmps62
  go_wp2_with (first | (refine wpList_load_row rfl 35 (.tmp 1) rfl w.heap.size rfl 35 D (0, 0) _ hB Try.underlying35 rfl hi ?_) | fail)
  refine Calls.mono HH.out.1 ?_
  rintro e5 W0 ⟨rfl, hb5⟩
  have hB0 : Blk W0 w.heap.size D 35 := (hb5.block _ hB.lt).trans hB
  have hL0 : Below w.heap.size w W0 := (HH.out.2.1 _).trans (hb5.mono (HH.out.2.1 _).size)
  obtain ⟨BX, hBX⟩ : ∃ BX, BX = [(w.heap.size, D, (35 : TypeId))] := ⟨_, rfl⟩
  have hcx : ∀ wr, CX BX wr → Blk wr w.heap.size D 35 := fun wr hwr => hwr _ (by rw [hBX]; exact List.mem_cons_self)
  have G0 : WG W0 w.heap.size (.slice none 0 0) BX (.slice none 0 0) [] W0 := WG.of (World.ownsRow_nil _ _ _ _) hL0.size (fun x hx => by rw [hBX] at hx; simp only [List.mem_cons, List.not_mem_nil, or_false] at hx; rw [hx]; exact hB0) (fun x _ e => by cases e)
  have hp := plain_step G0 [2] #[.int .i64 2] rfl (by intro x hx; simp at hx; omega) (by simp)
  rw [show plainW [2] = put 2 from by simp [plainW], List.nil_append] at hp
  have c0 : W0.cell? ⟨w.heap.size, 0, none⟩ = some (.int .i64 2) := (hB0.cell 0).trans H0.out
  have HP : Hid _ := And.intro hp (And.intro hL0 hcx)
  clear hp hL0 G0 hB hb5 hB0 hBX hcx
  go_wp2_with fail
  refine (show Calls Try.prog 83 #[.slice none 0 0, .slice (some ⟨W0.heap.size, 0, none⟩) 1 1] _ _ from HP.out.1).mono ?_
  rintro e1 w1 ⟨v1, rfl, G1⟩
  have c1 : w1.cell? ⟨w.heap.size, 0, none⟩ = some (.int .i64 2) := ((HP.out.2.2 _ G1.cx).cell 0).trans H0.out
  have HG : Hid _ := G1
  clear G1 c0
  go_wp2_with fail
  rename_i K hK
  have hlk := (put_len 2 (by omega)).2.1
  refine enc8 (s := m.name) (qm := qm) (qn := qn) (en := en) (Fr.ofLit _ rfl) rfl rfl HG.out (fun wr hwr => ?_) hs16 hm1 hm2 (by omega) (by omega) ?_
  · have h := HH.out.2.2 wr _ (HP.out.2.2 wr hwr)
    exact ⟨h.2.1, h.2.2.1, h.1, h.2.2.2.1⟩
  intro a2 f2 W2 v2 F2 k1 k4 G2
  refine hK _ _ ?_
  clear hK HG c1
  rw [F2.lit, lit150 f2, k1, k4]
  have hl20 : (put 2 ++ (put qm ++ put qn) ++ (put m.name.length ++ m.name) ++ put en).length ≤ 100 := by
    have h1 := (put_len qm (by omega)).2.1
    have h2 := (put_len qn (by omega)).2.1
    have h3 := (put_len m.name.length (by omega)).2.1
    have h4 := (put_len en (by omega)).2.1
    simp only [List.length_append]
    omega
  have hc2 := HP.out.2.2 _ G2.cx
  have hcs := HH.out.2.2 _ _ hc2
  have d2 : W2.cell? ⟨w.heap.size, 17, none⟩ = some (.int .i64 (en : Nat)) := hcs.2.2.2.1
  have d3 : W2.cell? ⟨w.heap.size, 2, none⟩ = some (.int .i64 (c : Nat)) := hcs.2.2.2.2.1
  have d4 : W2.cell? ⟨w.heap.size, 3, none⟩ = some (.int .i64 (r : Nat)) := hcs.2.2.2.2.2
  have hp2 := plain_step G2 [c, r] #[.int .i64 (c : Nat), .int .i64 (r : Nat)] rfl (by intro x hx; simp at hx; omega) (by simp only [List.length_cons, List.length_nil]; omega)
  rw [show plainW [c, r] = put c ++ put r from by simp [plainW]] at hp2
  have HG2 : Hid _ := hp2
  have hgo : ∀ e3 W3, (∃ v', e3 = Ending.returned v' ∧ WG W0 w.heap.size (.slice none 0 0) BX v' (put 2 ++ (put qm ++ put qn) ++ (put m.name.length ++ m.name) ++ put en ++ (put c ++ put r)) W3) → ∃ v', e3 = Ending.returned v' ∧ EncPost (some (put 2 ++ ((put qm ++ put qn) ++ ((put m.name.length ++ m.name) ++ (put en ++ (put c ++ put r)))))) w (.returned (.tuple #[v', .int .i64 0])) W3 := by
    rintro e3 W3 ⟨v3, rfl, G3⟩
    have hbY := G3.grew.below (base := w.heap.size) (by intro j e; cases e) (by have := HP.out.2.1.size; omega)
    exact ⟨v3, rfl, HP.out.2.1.trans hbY, v3, rfl, by simpa [List.append_assoc] using G3.own⟩
  have HGo : Hid _ := hgo
  clear hp2 hc2 G2 k1 k4 hcs hgo
  rcases hen with rfl | rfl
  all_goals
    go_wp2_with fail
    refine (show Calls Try.prog 83 #[v2, .slice (some ⟨W2.heap.size, 0, none⟩) 2 2] _ _ from HG2.out).mono ?_
    intro e3 W3 h3
    obtain ⟨v3, rfl, hfin⟩ := HGo.out _ _ h3
    have HF : Hid _ := hfin
    clear hfin h3
    go_wp2
    go_ret2
    have hx := HF.out
    simp only [List.append_assoc] at hx ⊢
    exact hx
end Go.Proofs.Ytneiomimjgfbpaa
