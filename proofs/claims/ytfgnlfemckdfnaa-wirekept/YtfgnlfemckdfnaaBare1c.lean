import Derived.Test.YtfgnlfemckdfnaaJD
namespace Go.Proofs.Ytfgnlfemckdfnaa
open Go.RowKit Go.PlainAid
set_option linter.unusedSimpArgs false
set_option linter.unusedVariables false
set_option maxRecDepth 100000 in
set_option maxHeartbeats 1600000 in
theorem ck_epoch (ops : Array Oper) (Q : Exit → Act → World → Prop) (rest : List Oper) (a : Act) (f : Nat → Value) (w : World) (hF : Fr 116 a f) (mb zb : Nat) (has : Int) (P : Bool) (round rank : Int)
    (h1 : f 1 = .int .u64 has) (h2 : f 2 = .pointer (some ⟨mb, 0, none⟩)) (h5 : f 5 = .pointer (some ⟨zb, 0, none⟩)) (hp : f 63 = .bool P) (g57 : (ops[57]?).bind (·.dst) = some 64) (g60 : (ops[60]?).bind (·.dst) = some 67) (c4 : w.cell? ⟨mb, 4, none⟩ = some (.int .i64 round)) (c5 : w.cell? ⟨mb, 5, none⟩ = some (.int .i64 rank)) (z4 : w.cell? ⟨zb, 4, none⟩ = some (.int .i64 0)) (z5 : w.cell? ⟨zb, 5, none⟩ = some (.int .i64 0))
    {s0 s1 s2 s3 s4 s5 s6 s7 s8 s9 s10 : String} {ty0 ty1 ty2 ty3 ty4 ty5 ty6 ty7 ty8 ty9 ty10 : TypeId} {af0 af1 af2 af3 af4 af5 af6 af7 af8 af9 af10 : Array Edge}
    (h : ∀ a' f', Fr 116 a' f' → f' 1 = .int .u64 has → f' 2 = .pointer (some ⟨mb, 0, none⟩) → f' 5 = .pointer (some ⟨zb, 0, none⟩) → f' 74 = .bool (P && ((bits .and .u64 has 32 != 0) || (round == 0 && rank == 0))) → wpList Try.prog ops Q rest a' w) :
    wpList Try.prog ops Q ({ dst := some 64, op := .move (.tmp 63), type := ty0, pos := s0, after := af0, guard := none } ::
      { dst := some 65, op := .move (.tmp 1), type := ty1, pos := s1, after := af1, guard := some (57, true) } ::
      { dst := some 66, op := .call { callee := .value (.func 69), args := #[.tmp 65, .const (.int .u64 32)], argTypes := #[78, 78] }, type := ty2, pos := s2, after := af2, guard := some (57, true) } ::
      { dst := some 67, op := .move (.tmp 66), type := ty3, pos := s3, after := af3, guard := some (57, true) } ::
      { dst := some 68, op := .fieldAddr 35 (.tmp 2) 4, type := ty4, pos := s4, after := af4, guard := some (60, false) } ::
      { dst := some 69, op := .load 25 (.tmp 68), type := ty5, pos := s5, after := af5, guard := some (60, false) } ::
      { dst := some 70, op := .fieldAddr 35 (.tmp 5) 4, type := ty6, pos := s6, after := af6, guard := some (60, false) } ::
      { dst := some 71, op := .load 25 (.tmp 70), type := ty7, pos := s7, after := af7, guard := some (60, false) } ::
      { dst := some 72, op := .binOp .eql 25 (.tmp 69) (.tmp 71) 25, type := ty8, pos := s8, after := af8, guard := some (60, false) } ::
      { dst := some 73, op := .pick (.tmp 67) (.const (.bool true)) (.tmp 72), type := ty9, pos := s9, after := af9, guard := some (57, true) } ::
      { dst := some 74, op := .pick (.tmp 64) (.tmp 73) (.const (.bool false)), type := ty10, pos := s10, after := af10, guard := none } :: rest) a w := by
  try unfold Str at *
  cases P with
  | false =>
    refine sy hF rfl (by omega) wn (v := .bool false) (by simp only [execOp, hF.eval 63 (by omega)]; simp [upd, h1, h2, h5, hp, go_sem, Act.eval]) fun a0 hF0 => ?_
    refine sn hF0 rfl (by omega) (hF0.ny g57 false) fun a1 hF1 => ?_
    refine sn hF1 rfl (by omega) (hF1.ny g57 false) fun a2 hF2 => ?_
    refine sn hF2 rfl (by omega) (hF2.ny g57 false) fun a3 hF3 => ?_
    refine sn hF3 rfl (by omega) (hF3.nn g60) fun a4 hF4 => ?_
    refine sn hF4 rfl (by omega) (hF4.nn g60) fun a5 hF5 => ?_
    refine sn hF5 rfl (by omega) (hF5.nn g60) fun a6 hF6 => ?_
    refine sn hF6 rfl (by omega) (hF6.nn g60) fun a7 hF7 => ?_
    refine sn hF7 rfl (by omega) (hF7.nn g60) fun a8 hF8 => ?_
    refine sn hF8 rfl (by omega) (hF8.ny g57 false) fun a9 hF9 => ?_
    refine sy hF9 rfl (by omega) wn (v := .bool false) (by simp only [execOp, hF9.eval 64 (by omega), hF9.eval 73 (by omega)]; simp [upd, h1, h2, h5, hp, go_sem, Act.eval]) fun a10 hF10 => ?_
    exact h _ _ hF10 (by simp [upd, h1]) (by simp [upd, h2]) (by simp [upd, h5]) (by simp [upd])
  | true =>
    cases hW : (bits .and .u64 has 32 != 0) with
    | true =>
      refine sy hF rfl (by omega) wn (v := .bool true) (by simp only [execOp, hF.eval 63 (by omega)]; simp [upd, h1, h2, h5, hp, go_sem, Act.eval]) fun a0 hF0 => ?_
      refine sy hF0 rfl (by omega) (hF0.ny g57 true) (v := .int .u64 has) (by simp only [execOp, hF0.eval 1 (by omega)]; simp [upd, h1, h2, h5, hp, go_sem, Act.eval]) fun a1 hF1 => ?_
      refine sc hF1 rfl (by omega) (hF1.ny g57 true) (k := 69) (args := #[.int .u64 has, .int .u64 32]) (by simp only [execOp, resolve, invoke, List.map_toArray, List.map_cons, List.map_nil, hF1.eval 65 (by omega)]; simp [upd, h1, h2, h5, hp, go_sem, Act.eval]) (v := .bool true) (by rw [← hW]; exact with_any has 32 w) fun a2 hF2 => ?_
      refine sy hF2 rfl (by omega) (hF2.ny g57 true) (v := .bool true) (by simp only [execOp, hF2.eval 66 (by omega)]; simp [upd, h1, h2, h5, hp, go_sem, Act.eval]) fun a3 hF3 => ?_
      refine sn hF3 rfl (by omega) (hF3.ny g60 true) fun a4 hF4 => ?_
      refine sn hF4 rfl (by omega) (hF4.ny g60 true) fun a5 hF5 => ?_
      refine sn hF5 rfl (by omega) (hF5.ny g60 true) fun a6 hF6 => ?_
      refine sn hF6 rfl (by omega) (hF6.ny g60 true) fun a7 hF7 => ?_
      refine sn hF7 rfl (by omega) (hF7.ny g60 true) fun a8 hF8 => ?_
      refine sy hF8 rfl (by omega) (hF8.ny g57 true) (v := .bool true) (by simp only [execOp, hF8.eval 67 (by omega), hF8.eval 72 (by omega)]; simp [upd, h1, h2, h5, hp, go_sem, Act.eval]) fun a9 hF9 => ?_
      refine sy hF9 rfl (by omega) wn (v := .bool true) (by simp only [execOp, hF9.eval 64 (by omega), hF9.eval 73 (by omega)]; simp [upd, h1, h2, h5, hp, go_sem, Act.eval]) fun a10 hF10 => ?_
      exact h _ _ hF10 (by simp [upd, h1]) (by simp [upd, h2]) (by simp [upd, h5]) (by simp only [hW]; simp [upd])
    | false =>
      cases hE : (round == 0 && rank == 0) with
      | false =>
        have hE2 := hE
        simp at hE2
        refine sy hF rfl (by omega) wn (v := .bool true) (by simp only [execOp, hF.eval 63 (by omega)]; simp [upd, h1, h2, h5, hp, go_sem, Act.eval]) fun a0 hF0 => ?_
        refine sy hF0 rfl (by omega) (hF0.ny g57 true) (v := .int .u64 has) (by simp only [execOp, hF0.eval 1 (by omega)]; simp [upd, h1, h2, h5, hp, go_sem, Act.eval]) fun a1 hF1 => ?_
        refine sc hF1 rfl (by omega) (hF1.ny g57 true) (k := 69) (args := #[.int .u64 has, .int .u64 32]) (by simp only [execOp, resolve, invoke, List.map_toArray, List.map_cons, List.map_nil, hF1.eval 65 (by omega)]; simp [upd, h1, h2, h5, hp, go_sem, Act.eval]) (v := .bool false) (by rw [← hW]; exact with_any has 32 w) fun a2 hF2 => ?_
        refine sy hF2 rfl (by omega) (hF2.ny g57 true) (v := .bool false) (by simp only [execOp, hF2.eval 66 (by omega)]; simp [upd, h1, h2, h5, hp, go_sem, Act.eval]) fun a3 hF3 => ?_
        refine sy hF3 rfl (by omega) (hF3.ny g60 false) (v := .pointer (some ⟨mb, 4, none⟩)) (by simp only [execOp, hF3.eval 2 (by omega)]; simp [upd, h1, h2, h5, hp, go_sem, Act.eval]) fun a4 hF4 => ?_
        refine sy hF4 rfl (by omega) (hF4.ny g60 false) (v := .agg #[.int .i64 round, .int .i64 rank]) (by simp only [execOp, hF4.eval 68 (by omega)]; simp [upd, h1, h2, h5, hp, go_sem, c4, c5, z4, z5]) fun a5 hF5 => ?_
        refine sy hF5 rfl (by omega) (hF5.ny g60 false) (v := .pointer (some ⟨zb, 4, none⟩)) (by simp only [execOp, hF5.eval 5 (by omega)]; simp [upd, h1, h2, h5, hp, go_sem, Act.eval]) fun a6 hF6 => ?_
        refine sy hF6 rfl (by omega) (hF6.ny g60 false) (v := .agg #[.int .i64 0, .int .i64 0]) (by simp only [execOp, hF6.eval 70 (by omega)]; simp [upd, h1, h2, h5, hp, go_sem, c4, c5, z4, z5]) fun a7 hF7 => ?_
        refine sy hF7 rfl (by omega) (hF7.ny g60 false) (v := .bool false) (by simp only [execOp, hF7.eval 69 (by omega), hF7.eval 71 (by omega)]; simp [upd, h1, h2, h5, hp, go_sem, Act.eval]; exact hE2) fun a8 hF8 => ?_
        refine sy hF8 rfl (by omega) (hF8.ny g57 true) (v := .bool false) (by simp only [execOp, hF8.eval 67 (by omega), hF8.eval 72 (by omega)]; simp [upd, h1, h2, h5, hp, go_sem, Act.eval]) fun a9 hF9 => ?_
        refine sy hF9 rfl (by omega) wn (v := .bool false) (by simp only [execOp, hF9.eval 64 (by omega), hF9.eval 73 (by omega)]; simp [upd, h1, h2, h5, hp, go_sem, Act.eval]) fun a10 hF10 => ?_
        exact h _ _ hF10 (by simp [upd, h1]) (by simp [upd, h2]) (by simp [upd, h5]) (by simp only [hW, hE]; simp [upd])
      | true =>
        have hE2 := hE
        simp at hE2
        refine sy hF rfl (by omega) wn (v := .bool true) (by simp only [execOp, hF.eval 63 (by omega)]; simp [upd, h1, h2, h5, hp, go_sem, Act.eval]) fun a0 hF0 => ?_
        refine sy hF0 rfl (by omega) (hF0.ny g57 true) (v := .int .u64 has) (by simp only [execOp, hF0.eval 1 (by omega)]; simp [upd, h1, h2, h5, hp, go_sem, Act.eval]) fun a1 hF1 => ?_
        refine sc hF1 rfl (by omega) (hF1.ny g57 true) (k := 69) (args := #[.int .u64 has, .int .u64 32]) (by simp only [execOp, resolve, invoke, List.map_toArray, List.map_cons, List.map_nil, hF1.eval 65 (by omega)]; simp [upd, h1, h2, h5, hp, go_sem, Act.eval]) (v := .bool false) (by rw [← hW]; exact with_any has 32 w) fun a2 hF2 => ?_
        refine sy hF2 rfl (by omega) (hF2.ny g57 true) (v := .bool false) (by simp only [execOp, hF2.eval 66 (by omega)]; simp [upd, h1, h2, h5, hp, go_sem, Act.eval]) fun a3 hF3 => ?_
        refine sy hF3 rfl (by omega) (hF3.ny g60 false) (v := .pointer (some ⟨mb, 4, none⟩)) (by simp only [execOp, hF3.eval 2 (by omega)]; simp [upd, h1, h2, h5, hp, go_sem, Act.eval]) fun a4 hF4 => ?_
        refine sy hF4 rfl (by omega) (hF4.ny g60 false) (v := .agg #[.int .i64 round, .int .i64 rank]) (by simp only [execOp, hF4.eval 68 (by omega)]; simp [upd, h1, h2, h5, hp, go_sem, c4, c5, z4, z5]) fun a5 hF5 => ?_
        refine sy hF5 rfl (by omega) (hF5.ny g60 false) (v := .pointer (some ⟨zb, 4, none⟩)) (by simp only [execOp, hF5.eval 5 (by omega)]; simp [upd, h1, h2, h5, hp, go_sem, Act.eval]) fun a6 hF6 => ?_
        refine sy hF6 rfl (by omega) (hF6.ny g60 false) (v := .agg #[.int .i64 0, .int .i64 0]) (by simp only [execOp, hF6.eval 70 (by omega)]; simp [upd, h1, h2, h5, hp, go_sem, c4, c5, z4, z5]) fun a7 hF7 => ?_
        refine sy hF7 rfl (by omega) (hF7.ny g60 false) (v := .bool true) (by simp only [execOp, hF7.eval 69 (by omega), hF7.eval 71 (by omega)]; simp [upd, h1, h2, h5, hp, go_sem, Act.eval, hE2]) fun a8 hF8 => ?_
        refine sy hF8 rfl (by omega) (hF8.ny g57 true) (v := .bool true) (by simp only [execOp, hF8.eval 67 (by omega), hF8.eval 72 (by omega)]; simp [upd, h1, h2, h5, hp, go_sem, Act.eval]) fun a9 hF9 => ?_
        refine sy hF9 rfl (by omega) wn (v := .bool true) (by simp only [execOp, hF9.eval 64 (by omega), hF9.eval 73 (by omega)]; simp [upd, h1, h2, h5, hp, go_sem, Act.eval]) fun a10 hF10 => ?_
        exact h _ _ hF10 (by simp [upd, h1]) (by simp [upd, h2]) (by simp [upd, h5]) (by simp only [hW, hE]; simp [upd])
set_option maxRecDepth 100000 in
set_option maxHeartbeats 1600000 in
theorem ck_rights (ops : Array Oper) (Q : Exit → Act → World → Prop) (rest : List Oper) (a : Act) (f : Nat → Value) (w : World) (hF : Fr 116 a f) (mb zb : Nat) (has : Int) (P : Bool) (down up : Int)
    (h1 : f 1 = .int .u64 has) (h2 : f 2 = .pointer (some ⟨mb, 0, none⟩)) (h5 : f 5 = .pointer (some ⟨zb, 0, none⟩)) (hp : f 74 = .bool P) (g68 : (ops[68]?).bind (·.dst) = some 75) (g71 : (ops[71]?).bind (·.dst) = some 78) (c8 : w.cell? ⟨mb, 8, none⟩ = some (.int .i64 down)) (c9 : w.cell? ⟨mb, 9, none⟩ = some (.int .i64 up)) (z8 : w.cell? ⟨zb, 8, none⟩ = some (.int .i64 0)) (z9 : w.cell? ⟨zb, 9, none⟩ = some (.int .i64 0))
    {s0 s1 s2 s3 s4 s5 s6 s7 s8 s9 s10 : String} {ty0 ty1 ty2 ty3 ty4 ty5 ty6 ty7 ty8 ty9 ty10 : TypeId} {af0 af1 af2 af3 af4 af5 af6 af7 af8 af9 af10 : Array Edge}
    (h : ∀ a' f', Fr 116 a' f' → f' 1 = .int .u64 has → f' 2 = .pointer (some ⟨mb, 0, none⟩) → f' 5 = .pointer (some ⟨zb, 0, none⟩) → f' 85 = .bool (P && ((bits .and .u64 has 64 != 0) || (down == 0 && up == 0))) → wpList Try.prog ops Q rest a' w) :
    wpList Try.prog ops Q ({ dst := some 75, op := .move (.tmp 74), type := ty0, pos := s0, after := af0, guard := none } ::
      { dst := some 76, op := .move (.tmp 1), type := ty1, pos := s1, after := af1, guard := some (68, true) } ::
      { dst := some 77, op := .call { callee := .value (.func 69), args := #[.tmp 76, .const (.int .u64 64)], argTypes := #[78, 78] }, type := ty2, pos := s2, after := af2, guard := some (68, true) } ::
      { dst := some 78, op := .move (.tmp 77), type := ty3, pos := s3, after := af3, guard := some (68, true) } ::
      { dst := some 79, op := .fieldAddr 35 (.tmp 2) 6, type := ty4, pos := s4, after := af4, guard := some (71, false) } ::
      { dst := some 80, op := .load 27 (.tmp 79), type := ty5, pos := s5, after := af5, guard := some (71, false) } ::
      { dst := some 81, op := .fieldAddr 35 (.tmp 5) 6, type := ty6, pos := s6, after := af6, guard := some (71, false) } ::
      { dst := some 82, op := .load 27 (.tmp 81), type := ty7, pos := s7, after := af7, guard := some (71, false) } ::
      { dst := some 83, op := .binOp .eql 27 (.tmp 80) (.tmp 82) 27, type := ty8, pos := s8, after := af8, guard := some (71, false) } ::
      { dst := some 84, op := .pick (.tmp 78) (.const (.bool true)) (.tmp 83), type := ty9, pos := s9, after := af9, guard := some (68, true) } ::
      { dst := some 85, op := .pick (.tmp 75) (.tmp 84) (.const (.bool false)), type := ty10, pos := s10, after := af10, guard := none } :: rest) a w := by
  try unfold Str at *
  cases P with
  | false =>
    refine sy hF rfl (by omega) wn (v := .bool false) (by simp only [execOp, hF.eval 74 (by omega)]; simp [upd, h1, h2, h5, hp, go_sem, Act.eval]) fun a0 hF0 => ?_
    refine sn hF0 rfl (by omega) (hF0.ny g68 false) fun a1 hF1 => ?_
    refine sn hF1 rfl (by omega) (hF1.ny g68 false) fun a2 hF2 => ?_
    refine sn hF2 rfl (by omega) (hF2.ny g68 false) fun a3 hF3 => ?_
    refine sn hF3 rfl (by omega) (hF3.nn g71) fun a4 hF4 => ?_
    refine sn hF4 rfl (by omega) (hF4.nn g71) fun a5 hF5 => ?_
    refine sn hF5 rfl (by omega) (hF5.nn g71) fun a6 hF6 => ?_
    refine sn hF6 rfl (by omega) (hF6.nn g71) fun a7 hF7 => ?_
    refine sn hF7 rfl (by omega) (hF7.nn g71) fun a8 hF8 => ?_
    refine sn hF8 rfl (by omega) (hF8.ny g68 false) fun a9 hF9 => ?_
    refine sy hF9 rfl (by omega) wn (v := .bool false) (by simp only [execOp, hF9.eval 75 (by omega), hF9.eval 84 (by omega)]; simp [upd, h1, h2, h5, hp, go_sem, Act.eval]) fun a10 hF10 => ?_
    exact h _ _ hF10 (by simp [upd, h1]) (by simp [upd, h2]) (by simp [upd, h5]) (by simp [upd])
  | true =>
    cases hW : (bits .and .u64 has 64 != 0) with
    | true =>
      refine sy hF rfl (by omega) wn (v := .bool true) (by simp only [execOp, hF.eval 74 (by omega)]; simp [upd, h1, h2, h5, hp, go_sem, Act.eval]) fun a0 hF0 => ?_
      refine sy hF0 rfl (by omega) (hF0.ny g68 true) (v := .int .u64 has) (by simp only [execOp, hF0.eval 1 (by omega)]; simp [upd, h1, h2, h5, hp, go_sem, Act.eval]) fun a1 hF1 => ?_
      refine sc hF1 rfl (by omega) (hF1.ny g68 true) (k := 69) (args := #[.int .u64 has, .int .u64 64]) (by simp only [execOp, resolve, invoke, List.map_toArray, List.map_cons, List.map_nil, hF1.eval 76 (by omega)]; simp [upd, h1, h2, h5, hp, go_sem, Act.eval]) (v := .bool true) (by rw [← hW]; exact with_any has 64 w) fun a2 hF2 => ?_
      refine sy hF2 rfl (by omega) (hF2.ny g68 true) (v := .bool true) (by simp only [execOp, hF2.eval 77 (by omega)]; simp [upd, h1, h2, h5, hp, go_sem, Act.eval]) fun a3 hF3 => ?_
      refine sn hF3 rfl (by omega) (hF3.ny g71 true) fun a4 hF4 => ?_
      refine sn hF4 rfl (by omega) (hF4.ny g71 true) fun a5 hF5 => ?_
      refine sn hF5 rfl (by omega) (hF5.ny g71 true) fun a6 hF6 => ?_
      refine sn hF6 rfl (by omega) (hF6.ny g71 true) fun a7 hF7 => ?_
      refine sn hF7 rfl (by omega) (hF7.ny g71 true) fun a8 hF8 => ?_
      refine sy hF8 rfl (by omega) (hF8.ny g68 true) (v := .bool true) (by simp only [execOp, hF8.eval 78 (by omega), hF8.eval 83 (by omega)]; simp [upd, h1, h2, h5, hp, go_sem, Act.eval]) fun a9 hF9 => ?_
      refine sy hF9 rfl (by omega) wn (v := .bool true) (by simp only [execOp, hF9.eval 75 (by omega), hF9.eval 84 (by omega)]; simp [upd, h1, h2, h5, hp, go_sem, Act.eval]) fun a10 hF10 => ?_
      exact h _ _ hF10 (by simp [upd, h1]) (by simp [upd, h2]) (by simp [upd, h5]) (by simp only [hW]; simp [upd])
    | false =>
      cases hE : (down == 0 && up == 0) with
      | false =>
        have hE2 := hE
        simp at hE2
        refine sy hF rfl (by omega) wn (v := .bool true) (by simp only [execOp, hF.eval 74 (by omega)]; simp [upd, h1, h2, h5, hp, go_sem, Act.eval]) fun a0 hF0 => ?_
        refine sy hF0 rfl (by omega) (hF0.ny g68 true) (v := .int .u64 has) (by simp only [execOp, hF0.eval 1 (by omega)]; simp [upd, h1, h2, h5, hp, go_sem, Act.eval]) fun a1 hF1 => ?_
        refine sc hF1 rfl (by omega) (hF1.ny g68 true) (k := 69) (args := #[.int .u64 has, .int .u64 64]) (by simp only [execOp, resolve, invoke, List.map_toArray, List.map_cons, List.map_nil, hF1.eval 76 (by omega)]; simp [upd, h1, h2, h5, hp, go_sem, Act.eval]) (v := .bool false) (by rw [← hW]; exact with_any has 64 w) fun a2 hF2 => ?_
        refine sy hF2 rfl (by omega) (hF2.ny g68 true) (v := .bool false) (by simp only [execOp, hF2.eval 77 (by omega)]; simp [upd, h1, h2, h5, hp, go_sem, Act.eval]) fun a3 hF3 => ?_
        refine sy hF3 rfl (by omega) (hF3.ny g71 false) (v := .pointer (some ⟨mb, 8, none⟩)) (by simp only [execOp, hF3.eval 2 (by omega)]; simp [upd, h1, h2, h5, hp, go_sem, Act.eval]) fun a4 hF4 => ?_
        refine sy hF4 rfl (by omega) (hF4.ny g71 false) (v := .agg #[.int .i64 down, .int .i64 up]) (by simp only [execOp, hF4.eval 79 (by omega)]; simp [upd, h1, h2, h5, hp, go_sem, c8, c9, z8, z9]) fun a5 hF5 => ?_
        refine sy hF5 rfl (by omega) (hF5.ny g71 false) (v := .pointer (some ⟨zb, 8, none⟩)) (by simp only [execOp, hF5.eval 5 (by omega)]; simp [upd, h1, h2, h5, hp, go_sem, Act.eval]) fun a6 hF6 => ?_
        refine sy hF6 rfl (by omega) (hF6.ny g71 false) (v := .agg #[.int .i64 0, .int .i64 0]) (by simp only [execOp, hF6.eval 81 (by omega)]; simp [upd, h1, h2, h5, hp, go_sem, c8, c9, z8, z9]) fun a7 hF7 => ?_
        refine sy hF7 rfl (by omega) (hF7.ny g71 false) (v := .bool false) (by simp only [execOp, hF7.eval 80 (by omega), hF7.eval 82 (by omega)]; simp [upd, h1, h2, h5, hp, go_sem, Act.eval]; exact hE2) fun a8 hF8 => ?_
        refine sy hF8 rfl (by omega) (hF8.ny g68 true) (v := .bool false) (by simp only [execOp, hF8.eval 78 (by omega), hF8.eval 83 (by omega)]; simp [upd, h1, h2, h5, hp, go_sem, Act.eval]) fun a9 hF9 => ?_
        refine sy hF9 rfl (by omega) wn (v := .bool false) (by simp only [execOp, hF9.eval 75 (by omega), hF9.eval 84 (by omega)]; simp [upd, h1, h2, h5, hp, go_sem, Act.eval]) fun a10 hF10 => ?_
        exact h _ _ hF10 (by simp [upd, h1]) (by simp [upd, h2]) (by simp [upd, h5]) (by simp only [hW, hE]; simp [upd])
      | true =>
        have hE2 := hE
        simp at hE2
        refine sy hF rfl (by omega) wn (v := .bool true) (by simp only [execOp, hF.eval 74 (by omega)]; simp [upd, h1, h2, h5, hp, go_sem, Act.eval]) fun a0 hF0 => ?_
        refine sy hF0 rfl (by omega) (hF0.ny g68 true) (v := .int .u64 has) (by simp only [execOp, hF0.eval 1 (by omega)]; simp [upd, h1, h2, h5, hp, go_sem, Act.eval]) fun a1 hF1 => ?_
        refine sc hF1 rfl (by omega) (hF1.ny g68 true) (k := 69) (args := #[.int .u64 has, .int .u64 64]) (by simp only [execOp, resolve, invoke, List.map_toArray, List.map_cons, List.map_nil, hF1.eval 76 (by omega)]; simp [upd, h1, h2, h5, hp, go_sem, Act.eval]) (v := .bool false) (by rw [← hW]; exact with_any has 64 w) fun a2 hF2 => ?_
        refine sy hF2 rfl (by omega) (hF2.ny g68 true) (v := .bool false) (by simp only [execOp, hF2.eval 77 (by omega)]; simp [upd, h1, h2, h5, hp, go_sem, Act.eval]) fun a3 hF3 => ?_
        refine sy hF3 rfl (by omega) (hF3.ny g71 false) (v := .pointer (some ⟨mb, 8, none⟩)) (by simp only [execOp, hF3.eval 2 (by omega)]; simp [upd, h1, h2, h5, hp, go_sem, Act.eval]) fun a4 hF4 => ?_
        refine sy hF4 rfl (by omega) (hF4.ny g71 false) (v := .agg #[.int .i64 down, .int .i64 up]) (by simp only [execOp, hF4.eval 79 (by omega)]; simp [upd, h1, h2, h5, hp, go_sem, c8, c9, z8, z9]) fun a5 hF5 => ?_
        refine sy hF5 rfl (by omega) (hF5.ny g71 false) (v := .pointer (some ⟨zb, 8, none⟩)) (by simp only [execOp, hF5.eval 5 (by omega)]; simp [upd, h1, h2, h5, hp, go_sem, Act.eval]) fun a6 hF6 => ?_
        refine sy hF6 rfl (by omega) (hF6.ny g71 false) (v := .agg #[.int .i64 0, .int .i64 0]) (by simp only [execOp, hF6.eval 81 (by omega)]; simp [upd, h1, h2, h5, hp, go_sem, c8, c9, z8, z9]) fun a7 hF7 => ?_
        refine sy hF7 rfl (by omega) (hF7.ny g71 false) (v := .bool true) (by simp only [execOp, hF7.eval 80 (by omega), hF7.eval 82 (by omega)]; simp [upd, h1, h2, h5, hp, go_sem, Act.eval, hE2]) fun a8 hF8 => ?_
        refine sy hF8 rfl (by omega) (hF8.ny g68 true) (v := .bool true) (by simp only [execOp, hF8.eval 78 (by omega), hF8.eval 83 (by omega)]; simp [upd, h1, h2, h5, hp, go_sem, Act.eval]) fun a9 hF9 => ?_
        refine sy hF9 rfl (by omega) wn (v := .bool true) (by simp only [execOp, hF9.eval 75 (by omega), hF9.eval 84 (by omega)]; simp [upd, h1, h2, h5, hp, go_sem, Act.eval]) fun a10 hF10 => ?_
        exact h _ _ hF10 (by simp [upd, h1]) (by simp [upd, h2]) (by simp [upd, h5]) (by simp only [hW, hE]; simp [upd])
end Go.Proofs.Ytfgnlfemckdfnaa
