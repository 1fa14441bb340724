import Derived.Test.YtfgnlfemckdfnaaJD
namespace Go.Proofs.Ytfgnlfemckdfnaa
open Go.RowKit Go.PlainAid
set_option linter.unusedSimpArgs false
set_option linter.unusedVariables false
set_option maxRecDepth 100000 in
set_option maxHeartbeats 1600000 in
theorem ck_held (ops : Array Oper) (Q : Exit → Act → World → Prop) (rest : List Oper) (a : Act) (f : Nat → Value) (w : World) (hF : Fr 116 a f) (mb zb : Nat) (has : Int) (P : Bool) (held : Int)
    (h1 : f 1 = .int .u64 has) (h2 : f 2 = .pointer (some ⟨mb, 0, none⟩)) (h5 : f 5 = .pointer (some ⟨zb, 0, none⟩)) (hp : f 85 = .bool P) (g79 : (ops[79]?).bind (·.dst) = some 86) (g82 : (ops[82]?).bind (·.dst) = some 89) (c10 : w.cell? ⟨mb, 10, none⟩ = some (.int .i64 held))
    {s0 s1 s2 s3 s4 s5 s6 s7 s8 : String} {ty0 ty1 ty2 ty3 ty4 ty5 ty6 ty7 ty8 : TypeId} {af0 af1 af2 af3 af4 af5 af6 af7 af8 : Array Edge}
    (h : ∀ a' f', Fr 116 a' f' → f' 1 = .int .u64 has → f' 2 = .pointer (some ⟨mb, 0, none⟩) → f' 5 = .pointer (some ⟨zb, 0, none⟩) → f' 94 = .bool (P && ((bits .and .u64 has 128 != 0) || (held == 0))) → wpList Try.prog ops Q rest a' w) :
    wpList Try.prog ops Q ({ dst := some 86, op := .move (.tmp 85), type := ty0, pos := s0, after := af0, guard := none } ::
      { dst := some 87, op := .move (.tmp 1), type := ty1, pos := s1, after := af1, guard := some (79, true) } ::
      { dst := some 88, op := .call { callee := .value (.func 69), args := #[.tmp 87, .const (.int .u64 128)], argTypes := #[78, 78] }, type := ty2, pos := s2, after := af2, guard := some (79, true) } ::
      { dst := some 89, op := .move (.tmp 88), type := ty3, pos := s3, after := af3, guard := some (79, true) } ::
      { dst := some 90, op := .fieldAddr 35 (.tmp 2) 7, type := ty4, pos := s4, after := af4, guard := some (82, false) } ::
      { dst := some 91, op := .load 3 (.tmp 90), type := ty5, pos := s5, after := af5, guard := some (82, false) } ::
      { dst := some 92, op := .binOp .eql 3 (.tmp 91) (.const (.int .i64 0)) 3, type := ty6, pos := s6, after := af6, guard := some (82, false) } ::
      { dst := some 93, op := .pick (.tmp 89) (.const (.bool true)) (.tmp 92), type := ty7, pos := s7, after := af7, guard := some (79, true) } ::
      { dst := some 94, op := .pick (.tmp 86) (.tmp 93) (.const (.bool false)), type := ty8, pos := s8, after := af8, guard := none } :: rest) a w := by
  try unfold Str at *
  cases P with
  | false =>
    refine sy hF rfl (by omega) wn (v := .bool false) (by simp only [execOp, hF.eval 85 (by omega)]; simp [upd, h1, h2, h5, hp, go_sem, Act.eval]) fun a0 hF0 => ?_
    refine sn hF0 rfl (by omega) (hF0.ny g79 false) fun a1 hF1 => ?_
    refine sn hF1 rfl (by omega) (hF1.ny g79 false) fun a2 hF2 => ?_
    refine sn hF2 rfl (by omega) (hF2.ny g79 false) fun a3 hF3 => ?_
    refine sn hF3 rfl (by omega) (hF3.nn g82) fun a4 hF4 => ?_
    refine sn hF4 rfl (by omega) (hF4.nn g82) fun a5 hF5 => ?_
    refine sn hF5 rfl (by omega) (hF5.nn g82) fun a6 hF6 => ?_
    refine sn hF6 rfl (by omega) (hF6.ny g79 false) fun a7 hF7 => ?_
    refine sy hF7 rfl (by omega) wn (v := .bool false) (by simp only [execOp, hF7.eval 86 (by omega), hF7.eval 93 (by omega)]; simp [upd, h1, h2, h5, hp, go_sem, Act.eval]) fun a8 hF8 => ?_
    exact h _ _ hF8 (by simp [upd, h1]) (by simp [upd, h2]) (by simp [upd, h5]) (by simp [upd])
  | true =>
    cases hW : (bits .and .u64 has 128 != 0) with
    | true =>
      refine sy hF rfl (by omega) wn (v := .bool true) (by simp only [execOp, hF.eval 85 (by omega)]; simp [upd, h1, h2, h5, hp, go_sem, Act.eval]) fun a0 hF0 => ?_
      refine sy hF0 rfl (by omega) (hF0.ny g79 true) (v := .int .u64 has) (by simp only [execOp, hF0.eval 1 (by omega)]; simp [upd, h1, h2, h5, hp, go_sem, Act.eval]) fun a1 hF1 => ?_
      refine sc hF1 rfl (by omega) (hF1.ny g79 true) (k := 69) (args := #[.int .u64 has, .int .u64 128]) (by simp only [execOp, resolve, invoke, List.map_toArray, List.map_cons, List.map_nil, hF1.eval 87 (by omega)]; simp [upd, h1, h2, h5, hp, go_sem, Act.eval]) (v := .bool true) (by rw [← hW]; exact with_any has 128 w) fun a2 hF2 => ?_
      refine sy hF2 rfl (by omega) (hF2.ny g79 true) (v := .bool true) (by simp only [execOp, hF2.eval 88 (by omega)]; simp [upd, h1, h2, h5, hp, go_sem, Act.eval]) fun a3 hF3 => ?_
      refine sn hF3 rfl (by omega) (hF3.ny g82 true) fun a4 hF4 => ?_
      refine sn hF4 rfl (by omega) (hF4.ny g82 true) fun a5 hF5 => ?_
      refine sn hF5 rfl (by omega) (hF5.ny g82 true) fun a6 hF6 => ?_
      refine sy hF6 rfl (by omega) (hF6.ny g79 true) (v := .bool true) (by simp only [execOp, hF6.eval 89 (by omega), hF6.eval 92 (by omega)]; simp [upd, h1, h2, h5, hp, go_sem, Act.eval]) fun a7 hF7 => ?_
      refine sy hF7 rfl (by omega) wn (v := .bool true) (by simp only [execOp, hF7.eval 86 (by omega), hF7.eval 93 (by omega)]; simp [upd, h1, h2, h5, hp, go_sem, Act.eval]) fun a8 hF8 => ?_
      exact h _ _ hF8 (by simp [upd, h1]) (by simp [upd, h2]) (by simp [upd, h5]) (by simp only [hW]; simp [upd])
    | false =>
      cases hE : (held == 0) with
      | false =>
        refine sy hF rfl (by omega) wn (v := .bool true) (by simp only [execOp, hF.eval 85 (by omega)]; simp [upd, h1, h2, h5, hp, go_sem, Act.eval]) fun a0 hF0 => ?_
        refine sy hF0 rfl (by omega) (hF0.ny g79 true) (v := .int .u64 has) (by simp only [execOp, hF0.eval 1 (by omega)]; simp [upd, h1, h2, h5, hp, go_sem, Act.eval]) fun a1 hF1 => ?_
        refine sc hF1 rfl (by omega) (hF1.ny g79 true) (k := 69) (args := #[.int .u64 has, .int .u64 128]) (by simp only [execOp, resolve, invoke, List.map_toArray, List.map_cons, List.map_nil, hF1.eval 87 (by omega)]; simp [upd, h1, h2, h5, hp, go_sem, Act.eval]) (v := .bool false) (by rw [← hW]; exact with_any has 128 w) fun a2 hF2 => ?_
        refine sy hF2 rfl (by omega) (hF2.ny g79 true) (v := .bool false) (by simp only [execOp, hF2.eval 88 (by omega)]; simp [upd, h1, h2, h5, hp, go_sem, Act.eval]) fun a3 hF3 => ?_
        refine sy hF3 rfl (by omega) (hF3.ny g82 false) (v := .pointer (some ⟨mb, 10, none⟩)) (by simp only [execOp, hF3.eval 2 (by omega)]; simp [upd, h1, h2, h5, hp, go_sem, Act.eval]) fun a4 hF4 => ?_
        refine sy hF4 rfl (by omega) (hF4.ny g82 false) (v := .int .i64 held) (by simp only [execOp, hF4.eval 90 (by omega)]; simp [upd, h1, h2, h5, hp, go_sem, c10]) fun a5 hF5 => ?_
        refine sy hF5 rfl (by omega) (hF5.ny g82 false) (v := .bool false) (by simp only [execOp, hF5.eval 91 (by omega)]; simp [upd, h1, h2, h5, hp, go_sem, Act.eval, hE]) fun a6 hF6 => ?_
        refine sy hF6 rfl (by omega) (hF6.ny g79 true) (v := .bool false) (by simp only [execOp, hF6.eval 89 (by omega), hF6.eval 92 (by omega)]; simp [upd, h1, h2, h5, hp, go_sem, Act.eval]) fun a7 hF7 => ?_
        refine sy hF7 rfl (by omega) wn (v := .bool false) (by simp only [execOp, hF7.eval 86 (by omega), hF7.eval 93 (by omega)]; simp [upd, h1, h2, h5, hp, go_sem, Act.eval]) fun a8 hF8 => ?_
        exact h _ _ hF8 (by simp [upd, h1]) (by simp [upd, h2]) (by simp [upd, h5]) (by simp only [hW, hE]; simp [upd])
      | true =>
        refine sy hF rfl (by omega) wn (v := .bool true) (by simp only [execOp, hF.eval 85 (by omega)]; simp [upd, h1, h2, h5, hp, go_sem, Act.eval]) fun a0 hF0 => ?_
        refine sy hF0 rfl (by omega) (hF0.ny g79 true) (v := .int .u64 has) (by simp only [execOp, hF0.eval 1 (by omega)]; simp [upd, h1, h2, h5, hp, go_sem, Act.eval]) fun a1 hF1 => ?_
        refine sc hF1 rfl (by omega) (hF1.ny g79 true) (k := 69) (args := #[.int .u64 has, .int .u64 128]) (by simp only [execOp, resolve, invoke, List.map_toArray, List.map_cons, List.map_nil, hF1.eval 87 (by omega)]; simp [upd, h1, h2, h5, hp, go_sem, Act.eval]) (v := .bool false) (by rw [← hW]; exact with_any has 128 w) fun a2 hF2 => ?_
        refine sy hF2 rfl (by omega) (hF2.ny g79 true) (v := .bool false) (by simp only [execOp, hF2.eval 88 (by omega)]; simp [upd, h1, h2, h5, hp, go_sem, Act.eval]) fun a3 hF3 => ?_
        refine sy hF3 rfl (by omega) (hF3.ny g82 false) (v := .pointer (some ⟨mb, 10, none⟩)) (by simp only [execOp, hF3.eval 2 (by omega)]; simp [upd, h1, h2, h5, hp, go_sem, Act.eval]) fun a4 hF4 => ?_
        refine sy hF4 rfl (by omega) (hF4.ny g82 false) (v := .int .i64 held) (by simp only [execOp, hF4.eval 90 (by omega)]; simp [upd, h1, h2, h5, hp, go_sem, c10]) fun a5 hF5 => ?_
        refine sy hF5 rfl (by omega) (hF5.ny g82 false) (v := .bool true) (by simp only [execOp, hF5.eval 91 (by omega)]; simp [upd, h1, h2, h5, hp, go_sem, Act.eval, hE]) fun a6 hF6 => ?_
        refine sy hF6 rfl (by omega) (hF6.ny g79 true) (v := .bool true) (by simp only [execOp, hF6.eval 89 (by omega), hF6.eval 92 (by omega)]; simp [upd, h1, h2, h5, hp, go_sem, Act.eval]) fun a7 hF7 => ?_
        refine sy hF7 rfl (by omega) wn (v := .bool true) (by simp only [execOp, hF7.eval 86 (by omega), hF7.eval 93 (by omega)]; simp [upd, h1, h2, h5, hp, go_sem, Act.eval]) fun a8 hF8 => ?_
        exact h _ _ hF8 (by simp [upd, h1]) (by simp [upd, h2]) (by simp [upd, h5]) (by simp only [hW, hE]; simp [upd])
set_option maxRecDepth 100000 in
set_option maxHeartbeats 1600000 in
theorem ck_over (ops : Array Oper) (Q : Exit → Act → World → Prop) (rest : List Oper) (a : Act) (f : Nat → Value) (w : World) (hF : Fr 116 a f) (mb zb : Nat) (has : Int) (P : Bool) (oround orank : Int)
    (h1 : f 1 = .int .u64 has) (h2 : f 2 = .pointer (some ⟨mb, 0, none⟩)) (h5 : f 5 = .pointer (some ⟨zb, 0, none⟩)) (hp : f 94 = .bool P) (g88 : (ops[88]?).bind (·.dst) = some 95) (g91 : (ops[91]?).bind (·.dst) = some 98) (c6 : w.cell? ⟨mb, 6, none⟩ = some (.int .i64 oround)) (c7 : w.cell? ⟨mb, 7, none⟩ = some (.int .i64 orank)) (z6 : w.cell? ⟨zb, 6, none⟩ = some (.int .i64 0)) (z7 : w.cell? ⟨zb, 7, none⟩ = some (.int .i64 0))
    {s0 s1 s2 s3 s4 s5 s6 s7 s8 s9 s10 : String} {ty0 ty1 ty2 ty3 ty4 ty5 ty6 ty7 ty8 ty9 ty10 : TypeId} {af0 af1 af2 af3 af4 af5 af6 af7 af8 af9 af10 : Array Edge}
    (h : ∀ a' f', Fr 116 a' f' → f' 1 = .int .u64 has → f' 2 = .pointer (some ⟨mb, 0, none⟩) → f' 5 = .pointer (some ⟨zb, 0, none⟩) → f' 105 = .bool (P && ((bits .and .u64 has 256 != 0) || (oround == 0 && orank == 0))) → wpList Try.prog ops Q rest a' w) :
    wpList Try.prog ops Q ({ dst := some 95, op := .move (.tmp 94), type := ty0, pos := s0, after := af0, guard := none } ::
      { dst := some 96, op := .move (.tmp 1), type := ty1, pos := s1, after := af1, guard := some (88, true) } ::
      { dst := some 97, op := .call { callee := .value (.func 69), args := #[.tmp 96, .const (.int .u64 256)], argTypes := #[78, 78] }, type := ty2, pos := s2, after := af2, guard := some (88, true) } ::
      { dst := some 98, op := .move (.tmp 97), type := ty3, pos := s3, after := af3, guard := some (88, true) } ::
      { dst := some 99, op := .fieldAddr 35 (.tmp 2) 5, type := ty4, pos := s4, after := af4, guard := some (91, false) } ::
      { dst := some 100, op := .load 25 (.tmp 99), type := ty5, pos := s5, after := af5, guard := some (91, false) } ::
      { dst := some 101, op := .fieldAddr 35 (.tmp 5) 5, type := ty6, pos := s6, after := af6, guard := some (91, false) } ::
      { dst := some 102, op := .load 25 (.tmp 101), type := ty7, pos := s7, after := af7, guard := some (91, false) } ::
      { dst := some 103, op := .binOp .eql 25 (.tmp 100) (.tmp 102) 25, type := ty8, pos := s8, after := af8, guard := some (91, false) } ::
      { dst := some 104, op := .pick (.tmp 98) (.const (.bool true)) (.tmp 103), type := ty9, pos := s9, after := af9, guard := some (88, true) } ::
      { dst := some 105, op := .pick (.tmp 95) (.tmp 104) (.const (.bool false)), type := ty10, pos := s10, after := af10, guard := none } :: rest) a w := by
  try unfold Str at *
  cases P with
  | false =>
    refine sy hF rfl (by omega) wn (v := .bool false) (by simp only [execOp, hF.eval 94 (by omega)]; simp [upd, h1, h2, h5, hp, go_sem, Act.eval]) fun a0 hF0 => ?_
    refine sn hF0 rfl (by omega) (hF0.ny g88 false) fun a1 hF1 => ?_
    refine sn hF1 rfl (by omega) (hF1.ny g88 false) fun a2 hF2 => ?_
    refine sn hF2 rfl (by omega) (hF2.ny g88 false) fun a3 hF3 => ?_
    refine sn hF3 rfl (by omega) (hF3.nn g91) fun a4 hF4 => ?_
    refine sn hF4 rfl (by omega) (hF4.nn g91) fun a5 hF5 => ?_
    refine sn hF5 rfl (by omega) (hF5.nn g91) fun a6 hF6 => ?_
    refine sn hF6 rfl (by omega) (hF6.nn g91) fun a7 hF7 => ?_
    refine sn hF7 rfl (by omega) (hF7.nn g91) fun a8 hF8 => ?_
    refine sn hF8 rfl (by omega) (hF8.ny g88 false) fun a9 hF9 => ?_
    refine sy hF9 rfl (by omega) wn (v := .bool false) (by simp only [execOp, hF9.eval 95 (by omega), hF9.eval 104 (by omega)]; simp [upd, h1, h2, h5, hp, go_sem, Act.eval]) fun a10 hF10 => ?_
    exact h _ _ hF10 (by simp [upd, h1]) (by simp [upd, h2]) (by simp [upd, h5]) (by simp [upd])
  | true =>
    cases hW : (bits .and .u64 has 256 != 0) with
    | true =>
      refine sy hF rfl (by omega) wn (v := .bool true) (by simp only [execOp, hF.eval 94 (by omega)]; simp [upd, h1, h2, h5, hp, go_sem, Act.eval]) fun a0 hF0 => ?_
      refine sy hF0 rfl (by omega) (hF0.ny g88 true) (v := .int .u64 has) (by simp only [execOp, hF0.eval 1 (by omega)]; simp [upd, h1, h2, h5, hp, go_sem, Act.eval]) fun a1 hF1 => ?_
      refine sc hF1 rfl (by omega) (hF1.ny g88 true) (k := 69) (args := #[.int .u64 has, .int .u64 256]) (by simp only [execOp, resolve, invoke, List.map_toArray, List.map_cons, List.map_nil, hF1.eval 96 (by omega)]; simp [upd, h1, h2, h5, hp, go_sem, Act.eval]) (v := .bool true) (by rw [← hW]; exact with_any has 256 w) fun a2 hF2 => ?_
      refine sy hF2 rfl (by omega) (hF2.ny g88 true) (v := .bool true) (by simp only [execOp, hF2.eval 97 (by omega)]; simp [upd, h1, h2, h5, hp, go_sem, Act.eval]) fun a3 hF3 => ?_
      refine sn hF3 rfl (by omega) (hF3.ny g91 true) fun a4 hF4 => ?_
      refine sn hF4 rfl (by omega) (hF4.ny g91 true) fun a5 hF5 => ?_
      refine sn hF5 rfl (by omega) (hF5.ny g91 true) fun a6 hF6 => ?_
      refine sn hF6 rfl (by omega) (hF6.ny g91 true) fun a7 hF7 => ?_
      refine sn hF7 rfl (by omega) (hF7.ny g91 true) fun a8 hF8 => ?_
      refine sy hF8 rfl (by omega) (hF8.ny g88 true) (v := .bool true) (by simp only [execOp, hF8.eval 98 (by omega), hF8.eval 103 (by omega)]; simp [upd, h1, h2, h5, hp, go_sem, Act.eval]) fun a9 hF9 => ?_
      refine sy hF9 rfl (by omega) wn (v := .bool true) (by simp only [execOp, hF9.eval 95 (by omega), hF9.eval 104 (by omega)]; simp [upd, h1, h2, h5, hp, go_sem, Act.eval]) fun a10 hF10 => ?_
      exact h _ _ hF10 (by simp [upd, h1]) (by simp [upd, h2]) (by simp [upd, h5]) (by simp only [hW]; simp [upd])
    | false =>
      cases hE : (oround == 0 && orank == 0) with
      | false =>
        have hE2 := hE
        simp at hE2
        refine sy hF rfl (by omega) wn (v := .bool true) (by simp only [execOp, hF.eval 94 (by omega)]; simp [upd, h1, h2, h5, hp, go_sem, Act.eval]) fun a0 hF0 => ?_
        refine sy hF0 rfl (by omega) (hF0.ny g88 true) (v := .int .u64 has) (by simp only [execOp, hF0.eval 1 (by omega)]; simp [upd, h1, h2, h5, hp, go_sem, Act.eval]) fun a1 hF1 => ?_
        refine sc hF1 rfl (by omega) (hF1.ny g88 true) (k := 69) (args := #[.int .u64 has, .int .u64 256]) (by simp only [execOp, resolve, invoke, List.map_toArray, List.map_cons, List.map_nil, hF1.eval 96 (by omega)]; simp [upd, h1, h2, h5, hp, go_sem, Act.eval]) (v := .bool false) (by rw [← hW]; exact with_any has 256 w) fun a2 hF2 => ?_
        refine sy hF2 rfl (by omega) (hF2.ny g88 true) (v := .bool false) (by simp only [execOp, hF2.eval 97 (by omega)]; simp [upd, h1, h2, h5, hp, go_sem, Act.eval]) fun a3 hF3 => ?_
        refine sy hF3 rfl (by omega) (hF3.ny g91 false) (v := .pointer (some ⟨mb, 6, none⟩)) (by simp only [execOp, hF3.eval 2 (by omega)]; simp [upd, h1, h2, h5, hp, go_sem, Act.eval]) fun a4 hF4 => ?_
        refine sy hF4 rfl (by omega) (hF4.ny g91 false) (v := .agg #[.int .i64 oround, .int .i64 orank]) (by simp only [execOp, hF4.eval 99 (by omega)]; simp [upd, h1, h2, h5, hp, go_sem, c6, c7, z6, z7]) fun a5 hF5 => ?_
        refine sy hF5 rfl (by omega) (hF5.ny g91 false) (v := .pointer (some ⟨zb, 6, none⟩)) (by simp only [execOp, hF5.eval 5 (by omega)]; simp [upd, h1, h2, h5, hp, go_sem, Act.eval]) fun a6 hF6 => ?_
        refine sy hF6 rfl (by omega) (hF6.ny g91 false) (v := .agg #[.int .i64 0, .int .i64 0]) (by simp only [execOp, hF6.eval 101 (by omega)]; simp [upd, h1, h2, h5, hp, go_sem, c6, c7, z6, z7]) fun a7 hF7 => ?_
        refine sy hF7 rfl (by omega) (hF7.ny g91 false) (v := .bool false) (by simp only [execOp, hF7.eval 100 (by omega), hF7.eval 102 (by omega)]; simp [upd, h1, h2, h5, hp, go_sem, Act.eval]; exact hE2) fun a8 hF8 => ?_
        refine sy hF8 rfl (by omega) (hF8.ny g88 true) (v := .bool false) (by simp only [execOp, hF8.eval 98 (by omega), hF8.eval 103 (by omega)]; simp [upd, h1, h2, h5, hp, go_sem, Act.eval]) fun a9 hF9 => ?_
        refine sy hF9 rfl (by omega) wn (v := .bool false) (by simp only [execOp, hF9.eval 95 (by omega), hF9.eval 104 (by omega)]; simp [upd, h1, h2, h5, hp, go_sem, Act.eval]) fun a10 hF10 => ?_
        exact h _ _ hF10 (by simp [upd, h1]) (by simp [upd, h2]) (by simp [upd, h5]) (by simp only [hW, hE]; simp [upd])
      | true =>
        have hE2 := hE
        simp at hE2
        refine sy hF rfl (by omega) wn (v := .bool true) (by simp only [execOp, hF.eval 94 (by omega)]; simp [upd, h1, h2, h5, hp, go_sem, Act.eval]) fun a0 hF0 => ?_
        refine sy hF0 rfl (by omega) (hF0.ny g88 true) (v := .int .u64 has) (by simp only [execOp, hF0.eval 1 (by omega)]; simp [upd, h1, h2, h5, hp, go_sem, Act.eval]) fun a1 hF1 => ?_
        refine sc hF1 rfl (by omega) (hF1.ny g88 true) (k := 69) (args := #[.int .u64 has, .int .u64 256]) (by simp only [execOp, resolve, invoke, List.map_toArray, List.map_cons, List.map_nil, hF1.eval 96 (by omega)]; simp [upd, h1, h2, h5, hp, go_sem, Act.eval]) (v := .bool false) (by rw [← hW]; exact with_any has 256 w) fun a2 hF2 => ?_
        refine sy hF2 rfl (by omega) (hF2.ny g88 true) (v := .bool false) (by simp only [execOp, hF2.eval 97 (by omega)]; simp [upd, h1, h2, h5, hp, go_sem, Act.eval]) fun a3 hF3 => ?_
        refine sy hF3 rfl (by omega) (hF3.ny g91 false) (v := .pointer (some ⟨mb, 6, none⟩)) (by simp only [execOp, hF3.eval 2 (by omega)]; simp [upd, h1, h2, h5, hp, go_sem, Act.eval]) fun a4 hF4 => ?_
        refine sy hF4 rfl (by omega) (hF4.ny g91 false) (v := .agg #[.int .i64 oround, .int .i64 orank]) (by simp only [execOp, hF4.eval 99 (by omega)]; simp [upd, h1, h2, h5, hp, go_sem, c6, c7, z6, z7]) fun a5 hF5 => ?_
        refine sy hF5 rfl (by omega) (hF5.ny g91 false) (v := .pointer (some ⟨zb, 6, none⟩)) (by simp only [execOp, hF5.eval 5 (by omega)]; simp [upd, h1, h2, h5, hp, go_sem, Act.eval]) fun a6 hF6 => ?_
        refine sy hF6 rfl (by omega) (hF6.ny g91 false) (v := .agg #[.int .i64 0, .int .i64 0]) (by simp only [execOp, hF6.eval 101 (by omega)]; simp [upd, h1, h2, h5, hp, go_sem, c6, c7, z6, z7]) fun a7 hF7 => ?_
        refine sy hF7 rfl (by omega) (hF7.ny g91 false) (v := .bool true) (by simp only [execOp, hF7.eval 100 (by omega), hF7.eval 102 (by omega)]; simp [upd, h1, h2, h5, hp, go_sem, Act.eval, hE2]) fun a8 hF8 => ?_
        refine sy hF8 rfl (by omega) (hF8.ny g88 true) (v := .bool true) (by simp only [execOp, hF8.eval 98 (by omega), hF8.eval 103 (by omega)]; simp [upd, h1, h2, h5, hp, go_sem, Act.eval]) fun a9 hF9 => ?_
        refine sy hF9 rfl (by omega) wn (v := .bool true) (by simp only [execOp, hF9.eval 95 (by omega), hF9.eval 104 (by omega)]; simp [upd, h1, h2, h5, hp, go_sem, Act.eval]) fun a10 hF10 => ?_
        exact h _ _ hF10 (by simp [upd, h1]) (by simp [upd, h2]) (by simp [upd, h5]) (by simp only [hW, hE]; simp [upd])
set_option maxRecDepth 100000 in
set_option maxHeartbeats 1600000 in
theorem ck_views (ops : Array Oper) (Q : Exit → Act → World → Prop) (rest : List Oper) (a : Act) (f : Nat → Value) (w : World) (hF : Fr 116 a f) (mb zb : Nat) (has : Int) (P : Bool) (ao : Option Addr) (nv cv : Nat)
    (h1 : f 1 = .int .u64 has) (h2 : f 2 = .pointer (some ⟨mb, 0, none⟩)) (h5 : f 5 = .pointer (some ⟨zb, 0, none⟩)) (hp : f 105 = .bool P) (g99 : (ops[99]?).bind (·.dst) = some 106) (g102 : (ops[102]?).bind (·.dst) = some 109) (c19 : w.cell? ⟨mb, 19, none⟩ = some (.slice ao nv cv))
    {s0 s1 s2 s3 s4 s5 s6 s7 s8 s9 : String} {ty0 ty1 ty2 ty3 ty4 ty5 ty6 ty7 ty8 ty9 : TypeId} {af0 af1 af2 af3 af4 af5 af6 af7 af8 af9 : Array Edge}
    (h : ∀ a' f', Fr 116 a' f' → f' 1 = .int .u64 has → f' 2 = .pointer (some ⟨mb, 0, none⟩) → f' 5 = .pointer (some ⟨zb, 0, none⟩) → f' 115 = .bool (P && ((bits .and .u64 has 512 != 0) || ((nv : Int) == 0))) → wpList Try.prog ops Q rest a' w) :
    wpList Try.prog ops Q ({ dst := some 106, op := .move (.tmp 105), type := ty0, pos := s0, after := af0, guard := none } ::
      { dst := some 107, op := .move (.tmp 1), type := ty1, pos := s1, after := af1, guard := some (99, true) } ::
      { dst := some 108, op := .call { callee := .value (.func 69), args := #[.tmp 107, .const (.int .u64 512)], argTypes := #[78, 78] }, type := ty2, pos := s2, after := af2, guard := some (99, true) } ::
      { dst := some 109, op := .move (.tmp 108), type := ty3, pos := s3, after := af3, guard := some (99, true) } ::
      { dst := some 110, op := .fieldAddr 35 (.tmp 2) 12, type := ty4, pos := s4, after := af4, guard := some (102, false) } ::
      { dst := some 111, op := .load 33 (.tmp 110), type := ty5, pos := s5, after := af5, guard := some (102, false) } ::
      { dst := some 112, op := .call { callee := .builtin .len, args := #[.tmp 111], argTypes := #[33] }, type := ty6, pos := s6, after := af6, guard := some (102, false) } ::
      { dst := some 113, op := .binOp .eql 3 (.tmp 112) (.const (.int .i64 0)) 3, type := ty7, pos := s7, after := af7, guard := some (102, false) } ::
      { dst := some 114, op := .pick (.tmp 109) (.const (.bool true)) (.tmp 113), type := ty8, pos := s8, after := af8, guard := some (99, true) } ::
      { dst := some 115, op := .pick (.tmp 106) (.tmp 114) (.const (.bool false)), type := ty9, pos := s9, after := af9, guard := none } :: rest) a w := by
  try unfold Str at *
  cases P with
  | false =>
    refine sy hF rfl (by omega) wn (v := .bool false) (by simp only [execOp, hF.eval 105 (by omega)]; simp [upd, h1, h2, h5, hp, go_sem, Act.eval]) fun a0 hF0 => ?_
    refine sn hF0 rfl (by omega) (hF0.ny g99 false) fun a1 hF1 => ?_
    refine sn hF1 rfl (by omega) (hF1.ny g99 false) fun a2 hF2 => ?_
    refine sn hF2 rfl (by omega) (hF2.ny g99 false) fun a3 hF3 => ?_
    refine sn hF3 rfl (by omega) (hF3.nn g102) fun a4 hF4 => ?_
    refine sn hF4 rfl (by omega) (hF4.nn g102) fun a5 hF5 => ?_
    refine sn hF5 rfl (by omega) (hF5.nn g102) fun a6 hF6 => ?_
    refine sn hF6 rfl (by omega) (hF6.nn g102) fun a7 hF7 => ?_
    refine sn hF7 rfl (by omega) (hF7.ny g99 false) fun a8 hF8 => ?_
    refine sy hF8 rfl (by omega) wn (v := .bool false) (by simp only [execOp, hF8.eval 106 (by omega), hF8.eval 114 (by omega)]; simp [upd, h1, h2, h5, hp, go_sem, Act.eval]) fun a9 hF9 => ?_
    exact h _ _ hF9 (by simp [upd, h1]) (by simp [upd, h2]) (by simp [upd, h5]) (by simp [upd])
  | true =>
    cases hW : (bits .and .u64 has 512 != 0) with
    | true =>
      refine sy hF rfl (by omega) wn (v := .bool true) (by simp only [execOp, hF.eval 105 (by omega)]; simp [upd, h1, h2, h5, hp, go_sem, Act.eval]) fun a0 hF0 => ?_
      refine sy hF0 rfl (by omega) (hF0.ny g99 true) (v := .int .u64 has) (by simp only [execOp, hF0.eval 1 (by omega)]; simp [upd, h1, h2, h5, hp, go_sem, Act.eval]) fun a1 hF1 => ?_
      refine sc hF1 rfl (by omega) (hF1.ny g99 true) (k := 69) (args := #[.int .u64 has, .int .u64 512]) (by simp only [execOp, resolve, invoke, List.map_toArray, List.map_cons, List.map_nil, hF1.eval 107 (by omega)]; simp [upd, h1, h2, h5, hp, go_sem, Act.eval]) (v := .bool true) (by rw [← hW]; exact with_any has 512 w) fun a2 hF2 => ?_
      refine sy hF2 rfl (by omega) (hF2.ny g99 true) (v := .bool true) (by simp only [execOp, hF2.eval 108 (by omega)]; simp [upd, h1, h2, h5, hp, go_sem, Act.eval]) fun a3 hF3 => ?_
      refine sn hF3 rfl (by omega) (hF3.ny g102 true) fun a4 hF4 => ?_
      refine sn hF4 rfl (by omega) (hF4.ny g102 true) fun a5 hF5 => ?_
      refine sn hF5 rfl (by omega) (hF5.ny g102 true) fun a6 hF6 => ?_
      refine sn hF6 rfl (by omega) (hF6.ny g102 true) fun a7 hF7 => ?_
      refine sy hF7 rfl (by omega) (hF7.ny g99 true) (v := .bool true) (by simp only [execOp, hF7.eval 109 (by omega), hF7.eval 113 (by omega)]; simp [upd, h1, h2, h5, hp, go_sem, Act.eval]) fun a8 hF8 => ?_
      refine sy hF8 rfl (by omega) wn (v := .bool true) (by simp only [execOp, hF8.eval 106 (by omega), hF8.eval 114 (by omega)]; simp [upd, h1, h2, h5, hp, go_sem, Act.eval]) fun a9 hF9 => ?_
      exact h _ _ hF9 (by simp [upd, h1]) (by simp [upd, h2]) (by simp [upd, h5]) (by simp only [hW]; simp [upd])
    | false =>
      cases hE : ((nv : Int) == 0) with
      | false =>
        refine sy hF rfl (by omega) wn (v := .bool true) (by simp only [execOp, hF.eval 105 (by omega)]; simp [upd, h1, h2, h5, hp, go_sem, Act.eval]) fun a0 hF0 => ?_
        refine sy hF0 rfl (by omega) (hF0.ny g99 true) (v := .int .u64 has) (by simp only [execOp, hF0.eval 1 (by omega)]; simp [upd, h1, h2, h5, hp, go_sem, Act.eval]) fun a1 hF1 => ?_
        refine sc hF1 rfl (by omega) (hF1.ny g99 true) (k := 69) (args := #[.int .u64 has, .int .u64 512]) (by simp only [execOp, resolve, invoke, List.map_toArray, List.map_cons, List.map_nil, hF1.eval 107 (by omega)]; simp [upd, h1, h2, h5, hp, go_sem, Act.eval]) (v := .bool false) (by rw [← hW]; exact with_any has 512 w) fun a2 hF2 => ?_
        refine sy hF2 rfl (by omega) (hF2.ny g99 true) (v := .bool false) (by simp only [execOp, hF2.eval 108 (by omega)]; simp [upd, h1, h2, h5, hp, go_sem, Act.eval]) fun a3 hF3 => ?_
        refine sy hF3 rfl (by omega) (hF3.ny g102 false) (v := .pointer (some ⟨mb, 19, none⟩)) (by simp only [execOp, hF3.eval 2 (by omega)]; simp [upd, h1, h2, h5, hp, go_sem, Act.eval]) fun a4 hF4 => ?_
        refine sy hF4 rfl (by omega) (hF4.ny g102 false) (v := .slice ao nv cv) (by simp only [execOp, hF4.eval 110 (by omega)]; simp [upd, h1, h2, h5, hp, go_sem, c19]) fun a5 hF5 => ?_
        refine sy hF5 rfl (by omega) (hF5.ny g102 false) (v := .int .i64 (nv : Int)) (by simp only [execOp, resolve, invoke, List.map_toArray, List.map_cons, List.map_nil, hF5.eval 111 (by omega)]; simp [upd, h1, h2, h5, hp, go_sem, Act.eval]) fun a6 hF6 => ?_
        refine sy hF6 rfl (by omega) (hF6.ny g102 false) (v := .bool false) (by simp only [execOp, hF6.eval 112 (by omega)]; simp [upd, h1, h2, h5, hp, go_sem, Act.eval, hE]) fun a7 hF7 => ?_
        refine sy hF7 rfl (by omega) (hF7.ny g99 true) (v := .bool false) (by simp only [execOp, hF7.eval 109 (by omega), hF7.eval 113 (by omega)]; simp [upd, h1, h2, h5, hp, go_sem, Act.eval]) fun a8 hF8 => ?_
        refine sy hF8 rfl (by omega) wn (v := .bool false) (by simp only [execOp, hF8.eval 106 (by omega), hF8.eval 114 (by omega)]; simp [upd, h1, h2, h5, hp, go_sem, Act.eval]) fun a9 hF9 => ?_
        exact h _ _ hF9 (by simp [upd, h1]) (by simp [upd, h2]) (by simp [upd, h5]) (by simp only [hW, hE]; simp [upd])
      | true =>
        refine sy hF rfl (by omega) wn (v := .bool true) (by simp only [execOp, hF.eval 105 (by omega)]; simp [upd, h1, h2, h5, hp, go_sem, Act.eval]) fun a0 hF0 => ?_
        refine sy hF0 rfl (by omega) (hF0.ny g99 true) (v := .int .u64 has) (by simp only [execOp, hF0.eval 1 (by omega)]; simp [upd, h1, h2, h5, hp, go_sem, Act.eval]) fun a1 hF1 => ?_
        refine sc hF1 rfl (by omega) (hF1.ny g99 true) (k := 69) (args := #[.int .u64 has, .int .u64 512]) (by simp only [execOp, resolve, invoke, List.map_toArray, List.map_cons, List.map_nil, hF1.eval 107 (by omega)]; simp [upd, h1, h2, h5, hp, go_sem, Act.eval]) (v := .bool false) (by rw [← hW]; exact with_any has 512 w) fun a2 hF2 => ?_
        refine sy hF2 rfl (by omega) (hF2.ny g99 true) (v := .bool false) (by simp only [execOp, hF2.eval 108 (by omega)]; simp [upd, h1, h2, h5, hp, go_sem, Act.eval]) fun a3 hF3 => ?_
        refine sy hF3 rfl (by omega) (hF3.ny g102 false) (v := .pointer (some ⟨mb, 19, none⟩)) (by simp only [execOp, hF3.eval 2 (by omega)]; simp [upd, h1, h2, h5, hp, go_sem, Act.eval]) fun a4 hF4 => ?_
        refine sy hF4 rfl (by omega) (hF4.ny g102 false) (v := .slice ao nv cv) (by simp only [execOp, hF4.eval 110 (by omega)]; simp [upd, h1, h2, h5, hp, go_sem, c19]) fun a5 hF5 => ?_
        refine sy hF5 rfl (by omega) (hF5.ny g102 false) (v := .int .i64 (nv : Int)) (by simp only [execOp, resolve, invoke, List.map_toArray, List.map_cons, List.map_nil, hF5.eval 111 (by omega)]; simp [upd, h1, h2, h5, hp, go_sem, Act.eval]) fun a6 hF6 => ?_
        refine sy hF6 rfl (by omega) (hF6.ny g102 false) (v := .bool true) (by simp only [execOp, hF6.eval 112 (by omega)]; simp [upd, h1, h2, h5, hp, go_sem, Act.eval, hE]) fun a7 hF7 => ?_
        refine sy hF7 rfl (by omega) (hF7.ny g99 true) (v := .bool true) (by simp only [execOp, hF7.eval 109 (by omega), hF7.eval 113 (by omega)]; simp [upd, h1, h2, h5, hp, go_sem, Act.eval]) fun a8 hF8 => ?_
        refine sy hF8 rfl (by omega) wn (v := .bool true) (by simp only [execOp, hF8.eval 106 (by omega), hF8.eval 114 (by omega)]; simp [upd, h1, h2, h5, hp, go_sem, Act.eval]) fun a9 hF9 => ?_
        exact h _ _ hF9 (by simp [upd, h1]) (by simp [upd, h2]) (by simp [upd, h5]) (by simp only [hW, hE]; simp [upd])
end Go.Proofs.Ytfgnlfemckdfnaa
