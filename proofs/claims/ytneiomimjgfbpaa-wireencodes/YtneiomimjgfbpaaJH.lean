import Derived.Test.YtneiomimjgfbpaaJG
namespace Go.Proofs.Ytneiomimjgfbpaa
open Go.RowKit Go.PlainAid
set_option linter.unusedSimpArgs false
set_option linter.unusedVariables false
set_option maxRecDepth 100000 in
set_option maxHeartbeats 1600000 in
theorem enc20 {w W : World} {base b : Nat} {v0 v1 : Value} {BX : List (Nat × Array Value × TypeId)} {out s : List UInt8} {c r : Nat} {Q : Exit → Act → World → Prop} {a0 : Act} {f : Nat → Value} (hF : Fr 150 a0 f) (h1 : f 1 = .pointer (some ⟨b, 0, none⟩)) (h4 : f 4 = v1) (G : WG w base v0 BX v1 out W)
    (hc1 : ∀ wr, CX BX wr → wr.cell? ⟨b, 1, none⟩ = some (.string ⟨s.toArray⟩) ∧ wr.cell? ⟨b, 2, none⟩ = some (.int .i64 (c : Nat)) ∧ wr.cell? ⟨b, 3, none⟩ = some (.int .i64 (r : Nat))) (hs16 : s.length ≤ 16) (hcb : c < 9223372036854775808) (hrb : r < 9223372036854775808) (hlo : out.length ≤ 700000)
    (hrest : ∀ (a' : Act) (f' : Nat → Value) (W' : World) (v' : Value), Fr 150 a' f' → f' 1 = .pointer (some ⟨b, 0, none⟩) → f' 4 = v' → WG w base v0 BX v' (out ++ (put s.length ++ s) ++ (put c ++ put r)) W' → Q .normal a' W') :
    (Code.region 20 #[{ dst := some 95, op := Op.move (Operand.tmp 4), type := 22, pos := "wire.go:209", after := #[], guard := none },
      { dst := some 96, op := Op.fieldAddr 35 (Operand.tmp 1) 1, type := 0, pos := "wire.go:209", after := #[], guard := none },
      { dst := some 97, op := Op.load 9 (Operand.tmp 96), type := 9, pos := "wire.go:209", after := #[{ on := 1, ground := Ground.data }], guard := none },
      { dst := some 98, op := Op.call { callee := Callee.value (Operand.func 90), args := #[Operand.tmp 95, Operand.tmp 97], argTypes := #[22, 9] }, type := 22, pos := "wire.go:209", after := #[{ on := 0, ground := Ground.data }, { on := 2, ground := Ground.data }], guard := none },
      { dst := some 99, op := Op.fieldAddr 35 (Operand.tmp 1) 2, type := 0, pos := "wire.go:209", after := #[], guard := none },
      { dst := some 100, op := Op.load 3 (Operand.tmp 99), type := 3, pos := "wire.go:209", after := #[{ on := 4, ground := Ground.data }], guard := none },
      { dst := some 101, op := Op.fieldAddr 35 (Operand.tmp 1) 3, type := 0, pos := "wire.go:209", after := #[], guard := none },
      { dst := some 102, op := Op.load 3 (Operand.tmp 101), type := 3, pos := "wire.go:209", after := #[{ on := 6, ground := Ground.data }], guard := none },
      { dst := some 103, op := Op.buildSlice 161 2 #[(0, Operand.tmp 100), (1, Operand.tmp 102)], type := 161, pos := "wire.go:209", after := #[{ on := 5, ground := Ground.data }, { on := 7, ground := Ground.data }], guard := none },
      { dst := some 104, op := Op.call { callee := Callee.value (Operand.func 83), args := #[Operand.tmp 98, Operand.tmp 103], argTypes := #[22, 161] }, type := 22, pos := "wire.go:209", after := #[{ on := 3, ground := Ground.data }, { on := 8, ground := Ground.data }, { on := 3, ground := Ground.chain }], guard := none },
      { dst := some 4, op := Op.assign (Operand.tmp 104), type := 22, pos := "wire.go:209", after := #[{ on := 9, ground := Ground.data }, { on := 9, ground := Ground.chain }, { on := 0, ground := Ground.phase }, { on := 1, ground := Ground.phase }, { on := 2, ground := Ground.phase }, { on := 3, ground := Ground.phase }, { on := 4, ground := Ground.phase }, { on := 5, ground := Ground.phase }, { on := 6, ground := Ground.phase }, { on := 7, ground := Ground.phase }, { on := 8, ground := Ground.phase }, { on := 9, ground := Ground.phase }], guard := none }] true).wp Try.prog Q a0 W := by
  have hp2 : plainW [c, r] = put c ++ put r := by simp [plainW]
  have hls := (put_len s.length (by omega)).2.1
  refine Z.wp_region_plan (CX BX) (fun i => i == 3 || i == 8 || i == 9 || i == 11) 11 (.one 0 (.one 1 (.one 2 (.one 4 (.one 5 (.one 6 (.one 7 (.two 3 8 (.one 8 (.one 9 (.one 10 .done))) (.one 3 (.one 9 (.one 10 .done))))))))))) (by kernel_rfl) rfl (by kernel_rfl) (by kernel_rfl) rfl (by kernel_rfl) ?_
  have G0 := G.drew
  generalize hYY : ({ W with drawn := W.drawn + 1 } : World) = Y at *
  clear hYY
  refine Z.py rfl hF rfl G0.cx rfl (by omega) (wanted_none rfl) (v := v1) (fun wr hwr => by simp only [execOp, (hF.eval 4 (by omega)).trans (show _ = v1 from by simp [upd, h1, h4])]; rfl) fun a1 F1 => ?_
  refine Z.py rfl F1 rfl G0.cx rfl (by omega) (wanted_none rfl) (v := Value.pointer (some ⟨b, 1, none⟩)) (fun wr hwr => by simp only [execOp, (F1.eval 1 (by omega)).trans (show _ = Value.pointer (some ⟨b, 0, none⟩) from by simp [upd, h1, h4])]; simp [go_sem]) fun a2 F2 => ?_
  refine Z.py rfl F2 rfl G0.cx rfl (by omega) (wanted_none rfl) (v := Value.string ⟨s.toArray⟩) (fun wr hwr => by simp only [execOp, (F2.eval 96 (by omega)).trans (show _ = Value.pointer (some ⟨b, 1, none⟩) from by simp [upd, h1, h4])]; simp [go_sem, (hc1 wr hwr).1]) fun a3 F3 => ?_
  refine Z.py rfl F3 rfl G0.cx rfl (by omega) (wanted_none rfl) (v := Value.pointer (some ⟨b, 2, none⟩)) (fun wr hwr => by simp only [execOp, (F3.eval 1 (by omega)).trans (show _ = Value.pointer (some ⟨b, 0, none⟩) from by simp [upd, h1, h4])]; simp [go_sem]) fun a4 F4 => ?_
  refine Z.py rfl F4 rfl G0.cx rfl (by omega) (wanted_none rfl) (v := Value.int .i64 (c : Nat)) (fun wr hwr => by simp only [execOp, (F4.eval 99 (by omega)).trans (show _ = Value.pointer (some ⟨b, 2, none⟩) from by simp [upd, h1, h4])]; simp [go_sem, (hc1 wr hwr).2.1]) fun a5 F5 => ?_
  refine Z.py rfl F5 rfl G0.cx rfl (by omega) (wanted_none rfl) (v := Value.pointer (some ⟨b, 3, none⟩)) (fun wr hwr => by simp only [execOp, (F5.eval 1 (by omega)).trans (show _ = Value.pointer (some ⟨b, 0, none⟩) from by simp [upd, h1, h4])]; simp [go_sem]) fun a6 F6 => ?_
  refine Z.py rfl F6 rfl G0.cx rfl (by omega) (wanted_none rfl) (v := Value.int .i64 (r : Nat)) (fun wr hwr => by simp only [execOp, (F6.eval 101 (by omega)).trans (show _ = Value.pointer (some ⟨b, 3, none⟩) from by simp [upd, h1, h4])]; simp [go_sem, (hc1 wr hwr).2.2]) fun a7 F7 => ?_
  refine Z.pfork G0.cx ?_ ?_
  · refine Z.pc' rfl F7 rfl rfl (by omega) (wanted_none rfl) (g := 90) (args := #[v1, Value.string ⟨s.toArray⟩]) (by simp only [execOp, resolve, invoke, List.map_toArray, List.map_cons, List.map_nil, (F7.eval 95 (by omega)).trans (show _ = v1 from by simp [upd, h1, h4]), (F7.eval 97 (by omega)).trans (show _ = Value.string ⟨s.toArray⟩ from by simp [upd, h1, h4])]; simp [go_sem, Act.eval]) (text_step G0 s hs16 (by omega)) ?_
    rintro e9 x9 ⟨v9, rfl, G9⟩
    refine ⟨v9, rfl, fun a8 F8 => ?_⟩
    refine Z.pe rfl F8 rfl G9.cx rfl (by omega) (wanted_none rfl) (v := Value.slice (some ⟨x9.heap.size, 0, none⟩) 2 2) (w1 := x9.alloc (.cells #[Value.int .i64 ((c : Nat) : Int), Value.int .i64 ((r : Nat) : Int)] 3)) (by simp only [execOp, List.map_toArray, List.map_cons, List.map_nil, (F8.eval 100 (by omega)).trans (show _ = Value.int .i64 (c : Nat) from by simp [upd, h1, h4]), (F8.eval 102 (by omega)).trans (show _ = Value.int .i64 (r : Nat) from by simp [upd, h1, h4])]; simp [go_sem]) fun a10 F10 => ?_
    have G11 := G9.box #[Value.int .i64 ((c : Nat) : Int), Value.int .i64 ((r : Nat) : Int)] 3
    refine Z.pc rfl F10 rfl G11.unbox.cx rfl (by omega) (wanted_none rfl) (g := 83) (args := #[v9, Value.slice (some ⟨x9.heap.size, 0, none⟩) 2 2]) (by simp only [execOp, resolve, invoke, List.map_toArray, List.map_cons, List.map_nil, (F10.eval 98 (by omega)).trans (show _ = v9 from by simp [upd, h1, h4]), (F10.eval 103 (by omega)).trans (show _ = Value.slice (some ⟨x9.heap.size, 0, none⟩) 2 2 from by simp [upd, h1, h4])]; simp [go_sem, Act.eval]) (plain_box G11 [c, r] rfl (by intro x hx; simp at hx; omega) (by simp; omega)) ?_
    rintro e13 x13 ⟨v13, rfl, G13⟩
    refine ⟨v13, rfl, fun a12 F12 => ?_⟩
    rw [hp2] at G13
    refine Z.py rfl F12 rfl G13.unbox.cx rfl (by omega) (wanted_none rfl) (v := v13) (fun wr hwr => by simp only [execOp, (F12.eval 104 (by omega)).trans (show _ = v13 from by simp [upd, h1, h4])]; rfl) fun a14 F14 => ?_
    refine Z.pdone (fun _ => G13.unbox.cx) ?_
    obtain ⟨f', F', k1, k4⟩ : ∃ f' : Nat → Value, Fr 150 _ f' ∧ f' 1 = Value.pointer (some ⟨b, 0, none⟩) ∧ f' 4 = v13 := ⟨_, F14, by simp [upd, h1, h4], by simp [upd, h1, h4]⟩
    exact hrest _ _ _ _ F' k1 k4 G13.unbox
  · refine Z.pe' rfl F7 rfl rfl (by omega) (wanted_none rfl) (v := Value.slice (some ⟨Y.heap.size, 0, none⟩) 2 2) (w1 := Y.alloc (.cells #[Value.int .i64 ((c : Nat) : Int), Value.int .i64 ((r : Nat) : Int)] 3)) (by simp only [execOp, List.map_toArray, List.map_cons, List.map_nil, (F7.eval 100 (by omega)).trans (show _ = Value.int .i64 (c : Nat) from by simp [upd, h1, h4]), (F7.eval 102 (by omega)).trans (show _ = Value.int .i64 (r : Nat) from by simp [upd, h1, h4])]; simp [go_sem]) fun a15 F15 => ?_
    have G16 := G0.box #[Value.int .i64 ((c : Nat) : Int), Value.int .i64 ((r : Nat) : Int)] 3
    refine Z.pc rfl F15 rfl G16.unbox.cx rfl (by omega) (wanted_none rfl) (g := 90) (args := #[v1, Value.string ⟨s.toArray⟩]) (by simp only [execOp, resolve, invoke, List.map_toArray, List.map_cons, List.map_nil, (F15.eval 95 (by omega)).trans (show _ = v1 from by simp [upd, h1, h4]), (F15.eval 97 (by omega)).trans (show _ = Value.string ⟨s.toArray⟩ from by simp [upd, h1, h4])]; simp [go_sem, Act.eval]) (text_step G16 s hs16 (by omega)) ?_
    rintro e18 x18 ⟨v18, rfl, G18⟩
    refine ⟨v18, rfl, fun a17 F17 => ?_⟩
    refine Z.pc rfl F17 rfl G18.unbox.cx rfl (by omega) (wanted_none rfl) (g := 83) (args := #[v18, Value.slice (some ⟨Y.heap.size, 0, none⟩) 2 2]) (by simp only [execOp, resolve, invoke, List.map_toArray, List.map_cons, List.map_nil, (F17.eval 98 (by omega)).trans (show _ = v18 from by simp [upd, h1, h4]), (F17.eval 103 (by omega)).trans (show _ = Value.slice (some ⟨Y.heap.size, 0, none⟩) 2 2 from by simp [upd, h1, h4])]; simp [go_sem, Act.eval]) (plain_box G18 [c, r] rfl (by intro x hx; simp at hx; omega) (by simp; omega)) ?_
    rintro e20 x20 ⟨v20, rfl, G20⟩
    refine ⟨v20, rfl, fun a19 F19 => ?_⟩
    rw [hp2] at G20
    refine Z.py rfl F19 rfl G20.unbox.cx rfl (by omega) (wanted_none rfl) (v := v20) (fun wr hwr => by simp only [execOp, (F19.eval 104 (by omega)).trans (show _ = v20 from by simp [upd, h1, h4])]; rfl) fun a21 F21 => ?_
    refine Z.pdone (fun _ => G20.unbox.cx) ?_
    obtain ⟨f', F', k1, k4⟩ : ∃ f' : Nat → Value, Fr 150 _ f' ∧ f' 1 = Value.pointer (some ⟨b, 0, none⟩) ∧ f' 4 = v20 := ⟨_, F21, by simp [upd, h1, h4], by simp [upd, h1, h4]⟩
    exact hrest _ _ _ _ F' k1 k4 G20.unbox
end Go.Proofs.Ytneiomimjgfbpaa
namespace Go.Proofs.Ytneiomimjgfbpaa
open Go.RowKit Go.PlainAid
set_option linter.unusedSimpArgs false
set_option linter.unusedVariables false
set_option maxRecDepth 100000 in
set_option maxHeartbeats 1600000 in
theorem enc18 {w W : World} {base b : Nat} {v0 v1 v_1 v_5 : Value} {BX : List (Nat × Array Value × TypeId)} {out s : List UInt8} {x1 x2 x3 x4 x5 x6 : Nat} {Q : Exit → Act → World → Prop} {a0 : Act} {f : Nat → Value} (hF : Fr 150 a0 f) (h1 : f 1 = v_1) (h4 : f 4 = v1) (h5 : f 5 = v_5) (h6 : f 6 = .pointer (some ⟨b, 0, none⟩)) (G : WG w base v0 BX v1 out W)
    (hc1 : ∀ wr, CX BX wr → wr.cell? ⟨b, 0, none⟩ = some (.string ⟨s.toArray⟩) ∧ wr.cell? ⟨b, 1, none⟩ = some (.int .i64 (x1 : Nat)) ∧ wr.cell? ⟨b, 2, none⟩ = some (.int .i64 (x2 : Nat)) ∧ wr.cell? ⟨b, 3, none⟩ = some (.int .i64 (x3 : Nat)) ∧ wr.cell? ⟨b, 4, none⟩ = some (.int .i64 (x4 : Nat)) ∧ wr.cell? ⟨b, 5, none⟩ = some (.int .i64 (x5 : Nat)) ∧ wr.cell? ⟨b, 6, none⟩ = some (.int .i64 (x6 : Nat))) (hs16 : s.length ≤ 16) (hb1 : x1 < 9223372036854775808) (hb2 : x2 < 9223372036854775808) (hb3 : x3 < 9223372036854775808) (hb4 : x4 < 9223372036854775808) (hb5 : x5 < 9223372036854775808) (hb6 : x6 < 9223372036854775808) (hlo : out.length ≤ 700000)
    (hrest : ∀ (a' : Act) (f' : Nat → Value) (W' : World) (v' : Value), Fr 150 a' f' → f' 1 = v_1 → f' 4 = v' → f' 5 = v_5 → WG w base v0 BX v' (out ++ (put s.length ++ s) ++ plainW [x1, x2, x3, x4, x5, x6]) W' → Q .normal a' W') :
    (Code.region 18 #[{ dst := some 74, op := Op.move (Operand.tmp 4), type := 22, pos := "wire.go:205", after := #[], guard := none },
      { dst := some 75, op := Op.fieldAddr 106 (Operand.tmp 6) 0, type := 0, pos := "wire.go:205", after := #[], guard := none },
      { dst := some 76, op := Op.load 9 (Operand.tmp 75), type := 9, pos := "wire.go:205", after := #[{ on := 1, ground := Ground.data }], guard := none },
      { dst := some 77, op := Op.call { callee := Callee.value (Operand.func 90), args := #[Operand.tmp 74, Operand.tmp 76], argTypes := #[22, 9] }, type := 22, pos := "wire.go:205", after := #[{ on := 0, ground := Ground.data }, { on := 2, ground := Ground.data }], guard := none },
      { dst := some 78, op := Op.fieldAddr 106 (Operand.tmp 6) 1, type := 0, pos := "wire.go:205", after := #[], guard := none },
      { dst := some 79, op := Op.load 3 (Operand.tmp 78), type := 3, pos := "wire.go:205", after := #[{ on := 4, ground := Ground.data }], guard := none },
      { dst := some 80, op := Op.fieldAddr 106 (Operand.tmp 6) 2, type := 0, pos := "wire.go:205", after := #[], guard := none },
      { dst := some 81, op := Op.load 3 (Operand.tmp 80), type := 3, pos := "wire.go:205", after := #[{ on := 6, ground := Ground.data }], guard := none },
      { dst := some 82, op := Op.fieldAddr 106 (Operand.tmp 6) 3, type := 0, pos := "wire.go:205", after := #[], guard := none },
      { dst := some 83, op := Op.load 3 (Operand.tmp 82), type := 3, pos := "wire.go:205", after := #[{ on := 8, ground := Ground.data }], guard := none },
      { dst := some 84, op := Op.fieldAddr 106 (Operand.tmp 6) 4, type := 0, pos := "wire.go:205", after := #[], guard := none },
      { dst := some 85, op := Op.fieldAddr 27 (Operand.tmp 84) 0, type := 0, pos := "wire.go:205", after := #[{ on := 10, ground := Ground.data }], guard := none },
      { dst := some 86, op := Op.load 3 (Operand.tmp 85), type := 3, pos := "wire.go:205", after := #[{ on := 11, ground := Ground.data }], guard := none },
      { dst := some 87, op := Op.fieldAddr 106 (Operand.tmp 6) 4, type := 0, pos := "wire.go:205", after := #[], guard := none },
      { dst := some 88, op := Op.fieldAddr 27 (Operand.tmp 87) 1, type := 0, pos := "wire.go:205", after := #[{ on := 13, ground := Ground.data }], guard := none },
      { dst := some 89, op := Op.load 3 (Operand.tmp 88), type := 3, pos := "wire.go:205", after := #[{ on := 14, ground := Ground.data }], guard := none },
      { dst := some 90, op := Op.fieldAddr 106 (Operand.tmp 6) 5, type := 0, pos := "wire.go:205", after := #[], guard := none },
      { dst := some 91, op := Op.load 3 (Operand.tmp 90), type := 3, pos := "wire.go:205", after := #[{ on := 16, ground := Ground.data }], guard := none },
      { dst := some 92, op := Op.buildSlice 161 6 #[(0, Operand.tmp 79), (1, Operand.tmp 81), (2, Operand.tmp 83), (3, Operand.tmp 86), (4, Operand.tmp 89), (5, Operand.tmp 91)], type := 161, pos := "wire.go:205", after := #[{ on := 5, ground := Ground.data }, { on := 7, ground := Ground.data }, { on := 9, ground := Ground.data }, { on := 12, ground := Ground.data }, { on := 15, ground := Ground.data }, { on := 17, ground := Ground.data }], guard := none },
      { dst := some 93, op := Op.call { callee := Callee.value (Operand.func 83), args := #[Operand.tmp 77, Operand.tmp 92], argTypes := #[22, 161] }, type := 22, pos := "wire.go:205", after := #[{ on := 3, ground := Ground.data }, { on := 18, ground := Ground.data }, { on := 3, ground := Ground.chain }], guard := none },
      { dst := some 4, op := Op.assign (Operand.tmp 93), type := 22, pos := "wire.go:205", after := #[{ on := 19, ground := Ground.data }, { on := 19, ground := Ground.chain }, { on := 0, ground := Ground.phase }, { on := 1, ground := Ground.phase }, { on := 2, ground := Ground.phase }, { on := 3, ground := Ground.phase }, { on := 4, ground := Ground.phase }, { on := 5, ground := Ground.phase }, { on := 6, ground := Ground.phase }, { on := 7, ground := Ground.phase }, { on := 8, ground := Ground.phase }, { on := 9, ground := Ground.phase }, { on := 10, ground := Ground.phase }, { on := 11, ground := Ground.phase }, { on := 12, ground := Ground.phase }, { on := 13, ground := Ground.phase }, { on := 14, ground := Ground.phase }, { on := 15, ground := Ground.phase }, { on := 16, ground := Ground.phase }, { on := 17, ground := Ground.phase }, { on := 18, ground := Ground.phase }, { on := 19, ground := Ground.phase }], guard := none }] true).wp Try.prog Q a0 W := by
  have hls := (put_len s.length (by omega)).2.1
  refine Z.wp_region_plan (CX BX) (fun i => i == 3 || i == 18 || i == 19 || i == 21) 21 (.one 0 (.one 1 (.one 2 (.one 4 (.one 5 (.one 6 (.one 7 (.one 8 (.one 9 (.one 10 (.one 11 (.one 12 (.one 13 (.one 14 (.one 15 (.one 16 (.one 17 (.two 3 18 (.one 18 (.one 19 (.one 20 .done))) (.one 3 (.one 19 (.one 20 .done))))))))))))))))))))) (by kernel_rfl) rfl (by kernel_rfl) (by kernel_rfl) rfl (by kernel_rfl) ?_
  have G0 := G.drew
  generalize hYY : ({ W with drawn := W.drawn + 1 } : World) = Y at *
  clear hYY
  refine Z.py rfl hF rfl G0.cx rfl (by omega) (wanted_none rfl) (v := v1) (fun wr hwr => by simp only [execOp, (hF.eval 4 (by omega)).trans (show _ = v1 from by simp [upd, h1, h4, h5, h6])]; rfl) fun a1 F1 => ?_
  refine Z.py rfl F1 rfl G0.cx rfl (by omega) (wanted_none rfl) (v := Value.pointer (some ⟨b, 0, none⟩)) (fun wr hwr => by simp only [execOp, (F1.eval 6 (by omega)).trans (show _ = Value.pointer (some ⟨b, 0, none⟩) from by simp [upd, h1, h4, h5, h6])]; simp [go_sem]) fun a2 F2 => ?_
  refine Z.py rfl F2 rfl G0.cx rfl (by omega) (wanted_none rfl) (v := Value.string ⟨s.toArray⟩) (fun wr hwr => by simp only [execOp, (F2.eval 75 (by omega)).trans (show _ = Value.pointer (some ⟨b, 0, none⟩) from by simp [upd, h1, h4, h5, h6])]; simp [go_sem, (hc1 wr hwr).1]) fun a3 F3 => ?_
  refine Z.py rfl F3 rfl G0.cx rfl (by omega) (wanted_none rfl) (v := Value.pointer (some ⟨b, 1, none⟩)) (fun wr hwr => by simp only [execOp, (F3.eval 6 (by omega)).trans (show _ = Value.pointer (some ⟨b, 0, none⟩) from by simp [upd, h1, h4, h5, h6])]; simp [go_sem]) fun a4 F4 => ?_
  refine Z.py rfl F4 rfl G0.cx rfl (by omega) (wanted_none rfl) (v := Value.int .i64 (x1 : Nat)) (fun wr hwr => by simp only [execOp, (F4.eval 78 (by omega)).trans (show _ = Value.pointer (some ⟨b, 1, none⟩) from by simp [upd, h1, h4, h5, h6])]; simp [go_sem, (hc1 wr hwr).2.1]) fun a5 F5 => ?_
  refine Z.py rfl F5 rfl G0.cx rfl (by omega) (wanted_none rfl) (v := Value.pointer (some ⟨b, 2, none⟩)) (fun wr hwr => by simp only [execOp, (F5.eval 6 (by omega)).trans (show _ = Value.pointer (some ⟨b, 0, none⟩) from by simp [upd, h1, h4, h5, h6])]; simp [go_sem]) fun a6 F6 => ?_
  refine Z.py rfl F6 rfl G0.cx rfl (by omega) (wanted_none rfl) (v := Value.int .i64 (x2 : Nat)) (fun wr hwr => by simp only [execOp, (F6.eval 80 (by omega)).trans (show _ = Value.pointer (some ⟨b, 2, none⟩) from by simp [upd, h1, h4, h5, h6])]; simp [go_sem, (hc1 wr hwr).2.2.1]) fun a7 F7 => ?_
  refine Z.py rfl F7 rfl G0.cx rfl (by omega) (wanted_none rfl) (v := Value.pointer (some ⟨b, 3, none⟩)) (fun wr hwr => by simp only [execOp, (F7.eval 6 (by omega)).trans (show _ = Value.pointer (some ⟨b, 0, none⟩) from by simp [upd, h1, h4, h5, h6])]; simp [go_sem]) fun a8 F8 => ?_
  refine Z.py rfl F8 rfl G0.cx rfl (by omega) (wanted_none rfl) (v := Value.int .i64 (x3 : Nat)) (fun wr hwr => by simp only [execOp, (F8.eval 82 (by omega)).trans (show _ = Value.pointer (some ⟨b, 3, none⟩) from by simp [upd, h1, h4, h5, h6])]; simp [go_sem, (hc1 wr hwr).2.2.2.1]) fun a9 F9 => ?_
  refine Z.py rfl F9 rfl G0.cx rfl (by omega) (wanted_none rfl) (v := Value.pointer (some ⟨b, 4, none⟩)) (fun wr hwr => by simp only [execOp, (F9.eval 6 (by omega)).trans (show _ = Value.pointer (some ⟨b, 0, none⟩) from by simp [upd, h1, h4, h5, h6])]; simp [go_sem]) fun a10 F10 => ?_
  refine Z.py rfl F10 rfl G0.cx rfl (by omega) (wanted_none rfl) (v := Value.pointer (some ⟨b, 4, none⟩)) (fun wr hwr => by simp only [execOp, (F10.eval 84 (by omega)).trans (show _ = Value.pointer (some ⟨b, 4, none⟩) from by simp [upd, h1, h4, h5, h6])]; simp [go_sem]) fun a11 F11 => ?_
  refine Z.py rfl F11 rfl G0.cx rfl (by omega) (wanted_none rfl) (v := Value.int .i64 (x4 : Nat)) (fun wr hwr => by simp only [execOp, (F11.eval 85 (by omega)).trans (show _ = Value.pointer (some ⟨b, 4, none⟩) from by simp [upd, h1, h4, h5, h6])]; simp [go_sem, (hc1 wr hwr).2.2.2.2.1]) fun a12 F12 => ?_
  refine Z.py rfl F12 rfl G0.cx rfl (by omega) (wanted_none rfl) (v := Value.pointer (some ⟨b, 4, none⟩)) (fun wr hwr => by simp only [execOp, (F12.eval 6 (by omega)).trans (show _ = Value.pointer (some ⟨b, 0, none⟩) from by simp [upd, h1, h4, h5, h6])]; simp [go_sem]) fun a13 F13 => ?_
  refine Z.py rfl F13 rfl G0.cx rfl (by omega) (wanted_none rfl) (v := Value.pointer (some ⟨b, 5, none⟩)) (fun wr hwr => by simp only [execOp, (F13.eval 87 (by omega)).trans (show _ = Value.pointer (some ⟨b, 4, none⟩) from by simp [upd, h1, h4, h5, h6])]; simp [go_sem]) fun a14 F14 => ?_
  refine Z.py rfl F14 rfl G0.cx rfl (by omega) (wanted_none rfl) (v := Value.int .i64 (x5 : Nat)) (fun wr hwr => by simp only [execOp, (F14.eval 88 (by omega)).trans (show _ = Value.pointer (some ⟨b, 5, none⟩) from by simp [upd, h1, h4, h5, h6])]; simp [go_sem, (hc1 wr hwr).2.2.2.2.2.1]) fun a15 F15 => ?_
  refine Z.py rfl F15 rfl G0.cx rfl (by omega) (wanted_none rfl) (v := Value.pointer (some ⟨b, 6, none⟩)) (fun wr hwr => by simp only [execOp, (F15.eval 6 (by omega)).trans (show _ = Value.pointer (some ⟨b, 0, none⟩) from by simp [upd, h1, h4, h5, h6])]; simp [go_sem]) fun a16 F16 => ?_
  refine Z.py rfl F16 rfl G0.cx rfl (by omega) (wanted_none rfl) (v := Value.int .i64 (x6 : Nat)) (fun wr hwr => by simp only [execOp, (F16.eval 90 (by omega)).trans (show _ = Value.pointer (some ⟨b, 6, none⟩) from by simp [upd, h1, h4, h5, h6])]; simp [go_sem, (hc1 wr hwr).2.2.2.2.2.2]) fun a17 F17 => ?_
  refine Z.pfork G0.cx ?_ ?_
  · refine Z.pc' rfl F17 rfl rfl (by omega) (wanted_none rfl) (g := 90) (args := #[v1, Value.string ⟨s.toArray⟩]) (by simp only [execOp, resolve, invoke, List.map_toArray, List.map_cons, List.map_nil, (F17.eval 74 (by omega)).trans (show _ = v1 from by simp [upd, h1, h4, h5, h6]), (F17.eval 76 (by omega)).trans (show _ = Value.string ⟨s.toArray⟩ from by simp [upd, h1, h4, h5, h6])]; simp [go_sem, Act.eval]) (text_step G0 s hs16 (by omega)) ?_
    rintro e19 x19 ⟨v19, rfl, G19⟩
    refine ⟨v19, rfl, fun a18 F18 => ?_⟩
    refine Z.pe rfl F18 rfl G19.cx rfl (by omega) (wanted_none rfl) (v := Value.slice (some ⟨x19.heap.size, 0, none⟩) 6 6) (w1 := x19.alloc (.cells #[Value.int .i64 ((x1 : Nat) : Int), Value.int .i64 ((x2 : Nat) : Int), Value.int .i64 ((x3 : Nat) : Int), Value.int .i64 ((x4 : Nat) : Int), Value.int .i64 ((x5 : Nat) : Int), Value.int .i64 ((x6 : Nat) : Int)] 3)) (by simp only [execOp, List.map_toArray, List.map_cons, List.map_nil, (F18.eval 79 (by omega)).trans (show _ = Value.int .i64 (x1 : Nat) from by simp [upd, h1, h4, h5, h6]), (F18.eval 81 (by omega)).trans (show _ = Value.int .i64 (x2 : Nat) from by simp [upd, h1, h4, h5, h6]), (F18.eval 83 (by omega)).trans (show _ = Value.int .i64 (x3 : Nat) from by simp [upd, h1, h4, h5, h6]), (F18.eval 86 (by omega)).trans (show _ = Value.int .i64 (x4 : Nat) from by simp [upd, h1, h4, h5, h6]), (F18.eval 89 (by omega)).trans (show _ = Value.int .i64 (x5 : Nat) from by simp [upd, h1, h4, h5, h6]), (F18.eval 91 (by omega)).trans (show _ = Value.int .i64 (x6 : Nat) from by simp [upd, h1, h4, h5, h6])]; simp [go_sem]) fun a20 F20 => ?_
    have G21 := G19.box #[Value.int .i64 ((x1 : Nat) : Int), Value.int .i64 ((x2 : Nat) : Int), Value.int .i64 ((x3 : Nat) : Int), Value.int .i64 ((x4 : Nat) : Int), Value.int .i64 ((x5 : Nat) : Int), Value.int .i64 ((x6 : Nat) : Int)] 3
    refine Z.pc rfl F20 rfl G21.unbox.cx rfl (by omega) (wanted_none rfl) (g := 83) (args := #[v19, Value.slice (some ⟨x19.heap.size, 0, none⟩) 6 6]) (by simp only [execOp, resolve, invoke, List.map_toArray, List.map_cons, List.map_nil, (F20.eval 77 (by omega)).trans (show _ = v19 from by simp [upd, h1, h4, h5, h6]), (F20.eval 92 (by omega)).trans (show _ = Value.slice (some ⟨x19.heap.size, 0, none⟩) 6 6 from by simp [upd, h1, h4, h5, h6])]; simp [go_sem, Act.eval]) (plain_box G21 [x1, x2, x3, x4, x5, x6] rfl (by intro x hx; simp at hx; omega) (by simp; omega)) ?_
    rintro e23 x23 ⟨v23, rfl, G23⟩
    refine ⟨v23, rfl, fun a22 F22 => ?_⟩
    refine Z.py rfl F22 rfl G23.unbox.cx rfl (by omega) (wanted_none rfl) (v := v23) (fun wr hwr => by simp only [execOp, (F22.eval 93 (by omega)).trans (show _ = v23 from by simp [upd, h1, h4, h5, h6])]; rfl) fun a24 F24 => ?_
    refine Z.pdone (fun _ => G23.unbox.cx) ?_
    obtain ⟨f', F', k1, k4, k5⟩ : ∃ f' : Nat → Value, Fr 150 _ f' ∧ f' 1 = v_1 ∧ f' 4 = v23 ∧ f' 5 = v_5 := ⟨_, F24, by simp [upd, h1, h4, h5, h6], by simp [upd, h1, h4, h5, h6], by simp [upd, h1, h4, h5, h6]⟩
    exact hrest _ _ _ _ F' k1 k4 k5 G23.unbox
  · refine Z.pe' rfl F17 rfl rfl (by omega) (wanted_none rfl) (v := Value.slice (some ⟨Y.heap.size, 0, none⟩) 6 6) (w1 := Y.alloc (.cells #[Value.int .i64 ((x1 : Nat) : Int), Value.int .i64 ((x2 : Nat) : Int), Value.int .i64 ((x3 : Nat) : Int), Value.int .i64 ((x4 : Nat) : Int), Value.int .i64 ((x5 : Nat) : Int), Value.int .i64 ((x6 : Nat) : Int)] 3)) (by simp only [execOp, List.map_toArray, List.map_cons, List.map_nil, (F17.eval 79 (by omega)).trans (show _ = Value.int .i64 (x1 : Nat) from by simp [upd, h1, h4, h5, h6]), (F17.eval 81 (by omega)).trans (show _ = Value.int .i64 (x2 : Nat) from by simp [upd, h1, h4, h5, h6]), (F17.eval 83 (by omega)).trans (show _ = Value.int .i64 (x3 : Nat) from by simp [upd, h1, h4, h5, h6]), (F17.eval 86 (by omega)).trans (show _ = Value.int .i64 (x4 : Nat) from by simp [upd, h1, h4, h5, h6]), (F17.eval 89 (by omega)).trans (show _ = Value.int .i64 (x5 : Nat) from by simp [upd, h1, h4, h5, h6]), (F17.eval 91 (by omega)).trans (show _ = Value.int .i64 (x6 : Nat) from by simp [upd, h1, h4, h5, h6])]; simp [go_sem]) fun a25 F25 => ?_
    have G26 := G0.box #[Value.int .i64 ((x1 : Nat) : Int), Value.int .i64 ((x2 : Nat) : Int), Value.int .i64 ((x3 : Nat) : Int), Value.int .i64 ((x4 : Nat) : Int), Value.int .i64 ((x5 : Nat) : Int), Value.int .i64 ((x6 : Nat) : Int)] 3
    refine Z.pc rfl F25 rfl G26.unbox.cx rfl (by omega) (wanted_none rfl) (g := 90) (args := #[v1, Value.string ⟨s.toArray⟩]) (by simp only [execOp, resolve, invoke, List.map_toArray, List.map_cons, List.map_nil, (F25.eval 74 (by omega)).trans (show _ = v1 from by simp [upd, h1, h4, h5, h6]), (F25.eval 76 (by omega)).trans (show _ = Value.string ⟨s.toArray⟩ from by simp [upd, h1, h4, h5, h6])]; simp [go_sem, Act.eval]) (text_step G26 s hs16 (by omega)) ?_
    rintro e28 x28 ⟨v28, rfl, G28⟩
    refine ⟨v28, rfl, fun a27 F27 => ?_⟩
    refine Z.pc rfl F27 rfl G28.unbox.cx rfl (by omega) (wanted_none rfl) (g := 83) (args := #[v28, Value.slice (some ⟨Y.heap.size, 0, none⟩) 6 6]) (by simp only [execOp, resolve, invoke, List.map_toArray, List.map_cons, List.map_nil, (F27.eval 77 (by omega)).trans (show _ = v28 from by simp [upd, h1, h4, h5, h6]), (F27.eval 92 (by omega)).trans (show _ = Value.slice (some ⟨Y.heap.size, 0, none⟩) 6 6 from by simp [upd, h1, h4, h5, h6])]; simp [go_sem, Act.eval]) (plain_box G28 [x1, x2, x3, x4, x5, x6] rfl (by intro x hx; simp at hx; omega) (by simp; omega)) ?_
    rintro e30 x30 ⟨v30, rfl, G30⟩
    refine ⟨v30, rfl, fun a29 F29 => ?_⟩
    refine Z.py rfl F29 rfl G30.unbox.cx rfl (by omega) (wanted_none rfl) (v := v30) (fun wr hwr => by simp only [execOp, (F29.eval 93 (by omega)).trans (show _ = v30 from by simp [upd, h1, h4, h5, h6])]; rfl) fun a31 F31 => ?_
    refine Z.pdone (fun _ => G30.unbox.cx) ?_
    obtain ⟨f', F', k1, k4, k5⟩ : ∃ f' : Nat → Value, Fr 150 _ f' ∧ f' 1 = v_1 ∧ f' 4 = v30 ∧ f' 5 = v_5 := ⟨_, F31, by simp [upd, h1, h4, h5, h6], by simp [upd, h1, h4, h5, h6], by simp [upd, h1, h4, h5, h6]⟩
    exact hrest _ _ _ _ F' k1 k4 k5 G30.unbox
end Go.Proofs.Ytneiomimjgfbpaa
