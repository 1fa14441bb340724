import Derived.Test.YtfgnlfemckdfnaaJD
namespace Go.Proofs.Ytfgnlfemckdfnaa
open Go.RowKit Go.PlainAid
set_option linter.unusedSimpArgs false
set_option linter.unusedVariables false
set_option maxRecDepth 100000 in
set_option maxHeartbeats 1600000 in
theorem ck_err (ops : Array Oper) (Q : Exit → Act → World → Prop) (rest : List Oper) (a : Act) (f : Nat → Value) (w : World) (hF : Fr 116 a f) (mb zb : Nat) (has : Int) (P : Bool) (err : Int)
    (h1 : f 1 = .int .u64 has) (h2 : f 2 = .pointer (some ⟨mb, 0, none⟩)) (h5 : f 5 = .pointer (some ⟨zb, 0, none⟩)) (hp : f 40 = .bool P) (g34 : (ops[34]?).bind (·.dst) = some 41) (g37 : (ops[37]?).bind (·.dst) = some 44) (c17 : w.cell? ⟨mb, 17, none⟩ = some (.int .i64 err))
    {s0 s1 s2 s3 s4 s5 s6 s7 s8 : String} {ty0 ty1 ty2 ty3 ty4 ty5 ty6 ty7 ty8 : TypeId} {af0 af1 af2 af3 af4 af5 af6 af7 af8 : Array Edge}
    (h : ∀ a' f', Fr 116 a' f' → f' 1 = .int .u64 has → f' 2 = .pointer (some ⟨mb, 0, none⟩) → f' 5 = .pointer (some ⟨zb, 0, none⟩) → f' 49 = .bool (P && ((bits .and .u64 has 8 != 0) || (err == 0))) → wpList Try.prog ops Q rest a' w) :
    wpList Try.prog ops Q ({ dst := some 41, op := .move (.tmp 40), type := ty0, pos := s0, after := af0, guard := none } ::
      { dst := some 42, op := .move (.tmp 1), type := ty1, pos := s1, after := af1, guard := some (34, true) } ::
      { dst := some 43, op := .call { callee := .value (.func 69), args := #[.tmp 42, .const (.int .u64 8)], argTypes := #[78, 78] }, type := ty2, pos := s2, after := af2, guard := some (34, true) } ::
      { dst := some 44, op := .move (.tmp 43), type := ty3, pos := s3, after := af3, guard := some (34, true) } ::
      { dst := some 45, op := .fieldAddr 35 (.tmp 2) 10, type := ty4, pos := s4, after := af4, guard := some (37, false) } ::
      { dst := some 46, op := .load 32 (.tmp 45), type := ty5, pos := s5, after := af5, guard := some (37, false) } ::
      { dst := some 47, op := .binOp .eql 32 (.tmp 46) (.const (.int .i64 0)) 32, type := ty6, pos := s6, after := af6, guard := some (37, false) } ::
      { dst := some 48, op := .pick (.tmp 44) (.const (.bool true)) (.tmp 47), type := ty7, pos := s7, after := af7, guard := some (34, true) } ::
      { dst := some 49, op := .pick (.tmp 41) (.tmp 48) (.const (.bool false)), type := ty8, pos := s8, after := af8, guard := none } :: rest) a w := by
  try unfold Str at *
  cases P with
  | false =>
    refine sy hF rfl (by omega) wn (v := .bool false) (by simp only [execOp, hF.eval 40 (by omega)]; simp [upd, h1, h2, h5, hp, go_sem, Act.eval]) fun a0 hF0 => ?_
    refine sn hF0 rfl (by omega) (hF0.ny g34 false) fun a1 hF1 => ?_
    refine sn hF1 rfl (by omega) (hF1.ny g34 false) fun a2 hF2 => ?_
    refine sn hF2 rfl (by omega) (hF2.ny g34 false) fun a3 hF3 => ?_
    refine sn hF3 rfl (by omega) (hF3.nn g37) fun a4 hF4 => ?_
    refine sn hF4 rfl (by omega) (hF4.nn g37) fun a5 hF5 => ?_
    refine sn hF5 rfl (by omega) (hF5.nn g37) fun a6 hF6 => ?_
    refine sn hF6 rfl (by omega) (hF6.ny g34 false) fun a7 hF7 => ?_
    refine sy hF7 rfl (by omega) wn (v := .bool false) (by simp only [execOp, hF7.eval 41 (by omega), hF7.eval 48 (by omega)]; simp [upd, h1, h2, h5, hp, go_sem, Act.eval]) fun a8 hF8 => ?_
    exact h _ _ hF8 (by simp [upd, h1]) (by simp [upd, h2]) (by simp [upd, h5]) (by simp [upd])
  | true =>
    cases hW : (bits .and .u64 has 8 != 0) with
    | true =>
      refine sy hF rfl (by omega) wn (v := .bool true) (by simp only [execOp, hF.eval 40 (by omega)]; simp [upd, h1, h2, h5, hp, go_sem, Act.eval]) fun a0 hF0 => ?_
      refine sy hF0 rfl (by omega) (hF0.ny g34 true) (v := .int .u64 has) (by simp only [execOp, hF0.eval 1 (by omega)]; simp [upd, h1, h2, h5, hp, go_sem, Act.eval]) fun a1 hF1 => ?_
      refine sc hF1 rfl (by omega) (hF1.ny g34 true) (k := 69) (args := #[.int .u64 has, .int .u64 8]) (by simp only [execOp, resolve, invoke, List.map_toArray, List.map_cons, List.map_nil, hF1.eval 42 (by omega)]; simp [upd, h1, h2, h5, hp, go_sem, Act.eval]) (v := .bool true) (by rw [← hW]; exact with_any has 8 w) fun a2 hF2 => ?_
      refine sy hF2 rfl (by omega) (hF2.ny g34 true) (v := .bool true) (by simp only [execOp, hF2.eval 43 (by omega)]; simp [upd, h1, h2, h5, hp, go_sem, Act.eval]) fun a3 hF3 => ?_
      refine sn hF3 rfl (by omega) (hF3.ny g37 true) fun a4 hF4 => ?_
      refine sn hF4 rfl (by omega) (hF4.ny g37 true) fun a5 hF5 => ?_
      refine sn hF5 rfl (by omega) (hF5.ny g37 true) fun a6 hF6 => ?_
      refine sy hF6 rfl (by omega) (hF6.ny g34 true) (v := .bool true) (by simp only [execOp, hF6.eval 44 (by omega), hF6.eval 47 (by omega)]; simp [upd, h1, h2, h5, hp, go_sem, Act.eval]) fun a7 hF7 => ?_
      refine sy hF7 rfl (by omega) wn (v := .bool true) (by simp only [execOp, hF7.eval 41 (by omega), hF7.eval 48 (by omega)]; simp [upd, h1, h2, h5, hp, go_sem, Act.eval]) fun a8 hF8 => ?_
      exact h _ _ hF8 (by simp [upd, h1]) (by simp [upd, h2]) (by simp [upd, h5]) (by simp only [hW]; simp [upd])
    | false =>
      cases hE : (err == 0) with
      | false =>
        refine sy hF rfl (by omega) wn (v := .bool true) (by simp only [execOp, hF.eval 40 (by omega)]; simp [upd, h1, h2, h5, hp, go_sem, Act.eval]) fun a0 hF0 => ?_
        refine sy hF0 rfl (by omega) (hF0.ny g34 true) (v := .int .u64 has) (by simp only [execOp, hF0.eval 1 (by omega)]; simp [upd, h1, h2, h5, hp, go_sem, Act.eval]) fun a1 hF1 => ?_
        refine sc hF1 rfl (by omega) (hF1.ny g34 true) (k := 69) (args := #[.int .u64 has, .int .u64 8]) (by simp only [execOp, resolve, invoke, List.map_toArray, List.map_cons, List.map_nil, hF1.eval 42 (by omega)]; simp [upd, h1, h2, h5, hp, go_sem, Act.eval]) (v := .bool false) (by rw [← hW]; exact with_any has 8 w) fun a2 hF2 => ?_
        refine sy hF2 rfl (by omega) (hF2.ny g34 true) (v := .bool false) (by simp only [execOp, hF2.eval 43 (by omega)]; simp [upd, h1, h2, h5, hp, go_sem, Act.eval]) fun a3 hF3 => ?_
        refine sy hF3 rfl (by omega) (hF3.ny g37 false) (v := .pointer (some ⟨mb, 17, none⟩)) (by simp only [execOp, hF3.eval 2 (by omega)]; simp [upd, h1, h2, h5, hp, go_sem, Act.eval]) fun a4 hF4 => ?_
        refine sy hF4 rfl (by omega) (hF4.ny g37 false) (v := .int .i64 err) (by simp only [execOp, hF4.eval 45 (by omega)]; simp [upd, h1, h2, h5, hp, go_sem, c17]) fun a5 hF5 => ?_
        refine sy hF5 rfl (by omega) (hF5.ny g37 false) (v := .bool false) (by simp only [execOp, hF5.eval 46 (by omega)]; simp [upd, h1, h2, h5, hp, go_sem, Act.eval, hE]) fun a6 hF6 => ?_
        refine sy hF6 rfl (by omega) (hF6.ny g34 true) (v := .bool false) (by simp only [execOp, hF6.eval 44 (by omega), hF6.eval 47 (by omega)]; simp [upd, h1, h2, h5, hp, go_sem, Act.eval]) fun a7 hF7 => ?_
        refine sy hF7 rfl (by omega) wn (v := .bool false) (by simp only [execOp, hF7.eval 41 (by omega), hF7.eval 48 (by omega)]; simp [upd, h1, h2, h5, hp, go_sem, Act.eval]) fun a8 hF8 => ?_
        exact h _ _ hF8 (by simp [upd, h1]) (by simp [upd, h2]) (by simp [upd, h5]) (by simp only [hW, hE]; simp [upd])
      | true =>
        refine sy hF rfl (by omega) wn (v := .bool true) (by simp only [execOp, hF.eval 40 (by omega)]; simp [upd, h1, h2, h5, hp, go_sem, Act.eval]) fun a0 hF0 => ?_
        refine sy hF0 rfl (by omega) (hF0.ny g34 true) (v := .int .u64 has) (by simp only [execOp, hF0.eval 1 (by omega)]; simp [upd, h1, h2, h5, hp, go_sem, Act.eval]) fun a1 hF1 => ?_
        refine sc hF1 rfl (by omega) (hF1.ny g34 true) (k := 69) (args := #[.int .u64 has, .int .u64 8]) (by simp only [execOp, resolve, invoke, List.map_toArray, List.map_cons, List.map_nil, hF1.eval 42 (by omega)]; simp [upd, h1, h2, h5, hp, go_sem, Act.eval]) (v := .bool false) (by rw [← hW]; exact with_any has 8 w) fun a2 hF2 => ?_
        refine sy hF2 rfl (by omega) (hF2.ny g34 true) (v := .bool false) (by simp only [execOp, hF2.eval 43 (by omega)]; simp [upd, h1, h2, h5, hp, go_sem, Act.eval]) fun a3 hF3 => ?_
        refine sy hF3 rfl (by omega) (hF3.ny g37 false) (v := .pointer (some ⟨mb, 17, none⟩)) (by simp only [execOp, hF3.eval 2 (by omega)]; simp [upd, h1, h2, h5, hp, go_sem, Act.eval]) fun a4 hF4 => ?_
        refine sy hF4 rfl (by omega) (hF4.ny g37 false) (v := .int .i64 err) (by simp only [execOp, hF4.eval 45 (by omega)]; simp [upd, h1, h2, h5, hp, go_sem, c17]) fun a5 hF5 => ?_
        refine sy hF5 rfl (by omega) (hF5.ny g37 false) (v := .bool true) (by simp only [execOp, hF5.eval 46 (by omega)]; simp [upd, h1, h2, h5, hp, go_sem, Act.eval, hE]) fun a6 hF6 => ?_
        refine sy hF6 rfl (by omega) (hF6.ny g34 true) (v := .bool true) (by simp only [execOp, hF6.eval 44 (by omega), hF6.eval 47 (by omega)]; simp [upd, h1, h2, h5, hp, go_sem, Act.eval]) fun a7 hF7 => ?_
        refine sy hF7 rfl (by omega) wn (v := .bool true) (by simp only [execOp, hF7.eval 41 (by omega), hF7.eval 48 (by omega)]; simp [upd, h1, h2, h5, hp, go_sem, Act.eval]) fun a8 hF8 => ?_
        exact h _ _ hF8 (by simp [upd, h1]) (by simp [upd, h2]) (by simp [upd, h5]) (by simp only [hW, hE]; simp [upd])
set_option maxRecDepth 100000 in
set_option maxHeartbeats 1600000 in
theorem ck_cap (ops : Array Oper) (Q : Exit → Act → World → Prop) (rest : List Oper) (a : Act) (f : Nat → Value) (w : World) (hF : Fr 116 a f) (mb zb : Nat) (has : Int) (P : Bool) (cap recaps : Int)
    (h1 : f 1 = .int .u64 has) (h2 : f 2 = .pointer (some ⟨mb, 0, none⟩)) (h5 : f 5 = .pointer (some ⟨zb, 0, none⟩)) (hp : f 49 = .bool P) (g43 : (ops[43]?).bind (·.dst) = some 50) (g46 : (ops[46]?).bind (·.dst) = some 53) (g50 : (ops[50]?).bind (·.dst) = some 57) (c2 : w.cell? ⟨mb, 2, none⟩ = some (.int .i64 cap)) (c3 : w.cell? ⟨mb, 3, none⟩ = some (.int .i64 recaps))
    {s0 s1 s2 s3 s4 s5 s6 s7 s8 s9 s10 s11 s12 s13 : String} {ty0 ty1 ty2 ty3 ty4 ty5 ty6 ty7 ty8 ty9 ty10 ty11 ty12 ty13 : TypeId} {af0 af1 af2 af3 af4 af5 af6 af7 af8 af9 af10 af11 af12 af13 : Array Edge}
    (h : ∀ a' f', Fr 116 a' f' → f' 1 = .int .u64 has → f' 2 = .pointer (some ⟨mb, 0, none⟩) → f' 5 = .pointer (some ⟨zb, 0, none⟩) → f' 63 = .bool (P && ((bits .and .u64 has 16 != 0) || (cap == 0 && recaps == 0))) → wpList Try.prog ops Q rest a' w) :
    wpList Try.prog ops Q ({ dst := some 50, op := .move (.tmp 49), type := ty0, pos := s0, after := af0, guard := none } ::
      { dst := some 51, op := .move (.tmp 1), type := ty1, pos := s1, after := af1, guard := some (43, true) } ::
      { dst := some 52, op := .call { callee := .value (.func 69), args := #[.tmp 51, .const (.int .u64 16)], argTypes := #[78, 78] }, type := ty2, pos := s2, after := af2, guard := some (43, true) } ::
      { dst := some 53, op := .move (.tmp 52), type := ty3, pos := s3, after := af3, guard := some (43, true) } ::
      { dst := some 54, op := .fieldAddr 35 (.tmp 2) 2, type := ty4, pos := s4, after := af4, guard := some (46, false) } ::
      { dst := some 55, op := .load 3 (.tmp 54), type := ty5, pos := s5, after := af5, guard := some (46, false) } ::
      { dst := some 56, op := .binOp .eql 3 (.tmp 55) (.const (.int .i64 0)) 3, type := ty6, pos := s6, after := af6, guard := some (46, false) } ::
      { dst := some 57, op := .move (.tmp 56), type := ty7, pos := s7, after := af7, guard := some (46, false) } ::
      { dst := some 58, op := .fieldAddr 35 (.tmp 2) 3, type := ty8, pos := s8, after := af8, guard := some (50, true) } ::
      { dst := some 59, op := .load 3 (.tmp 58), type := ty9, pos := s9, after := af9, guard := some (50, true) } ::
      { dst := some 60, op := .binOp .eql 3 (.tmp 59) (.const (.int .i64 0)) 3, type := ty10, pos := s10, after := af10, guard := some (50, true) } ::
      { dst := some 61, op := .pick (.tmp 57) (.tmp 60) (.const (.bool false)), type := ty11, pos := s11, after := af11, guard := some (46, false) } ::
      { dst := some 62, op := .pick (.tmp 53) (.const (.bool true)) (.tmp 61), type := ty12, pos := s12, after := af12, guard := some (43, true) } ::
      { dst := some 63, op := .pick (.tmp 50) (.tmp 62) (.const (.bool false)), type := ty13, pos := s13, after := af13, guard := none } :: rest) a w := by
  try unfold Str at *
  cases P with
  | false =>
    refine sy hF rfl (by omega) wn (v := .bool false) (by simp only [execOp, hF.eval 49 (by omega)]; simp [upd, h1, h2, h5, hp, go_sem, Act.eval]) fun a0 hF0 => ?_
    refine sn hF0 rfl (by omega) (hF0.ny g43 false) fun a1 hF1 => ?_
    refine sn hF1 rfl (by omega) (hF1.ny g43 false) fun a2 hF2 => ?_
    refine sn hF2 rfl (by omega) (hF2.ny g43 false) fun a3 hF3 => ?_
    refine sn hF3 rfl (by omega) (hF3.nn g46) fun a4 hF4 => ?_
    refine sn hF4 rfl (by omega) (hF4.nn g46) fun a5 hF5 => ?_
    refine sn hF5 rfl (by omega) (hF5.nn g46) fun a6 hF6 => ?_
    refine sn hF6 rfl (by omega) (hF6.nn g46) fun a7 hF7 => ?_
    refine sn hF7 rfl (by omega) (hF7.nn g50) fun a8 hF8 => ?_
    refine sn hF8 rfl (by omega) (hF8.nn g50) fun a9 hF9 => ?_
    refine sn hF9 rfl (by omega) (hF9.nn g50) fun a10 hF10 => ?_
    refine sn hF10 rfl (by omega) (hF10.nn g46) fun a11 hF11 => ?_
    refine sn hF11 rfl (by omega) (hF11.ny g43 false) fun a12 hF12 => ?_
    refine sy hF12 rfl (by omega) wn (v := .bool false) (by simp only [execOp, hF12.eval 50 (by omega), hF12.eval 62 (by omega)]; simp [upd, h1, h2, h5, hp, go_sem, Act.eval]) fun a13 hF13 => ?_
    exact h _ _ hF13 (by simp [upd, h1]) (by simp [upd, h2]) (by simp [upd, h5]) (by simp [upd])
  | true =>
    cases hW : (bits .and .u64 has 16 != 0) with
    | true =>
      refine sy hF rfl (by omega) wn (v := .bool true) (by simp only [execOp, hF.eval 49 (by omega)]; simp [upd, h1, h2, h5, hp, go_sem, Act.eval]) fun a0 hF0 => ?_
      refine sy hF0 rfl (by omega) (hF0.ny g43 true) (v := .int .u64 has) (by simp only [execOp, hF0.eval 1 (by omega)]; simp [upd, h1, h2, h5, hp, go_sem, Act.eval]) fun a1 hF1 => ?_
      refine sc hF1 rfl (by omega) (hF1.ny g43 true) (k := 69) (args := #[.int .u64 has, .int .u64 16]) (by simp only [execOp, resolve, invoke, List.map_toArray, List.map_cons, List.map_nil, hF1.eval 51 (by omega)]; simp [upd, h1, h2, h5, hp, go_sem, Act.eval]) (v := .bool true) (by rw [← hW]; exact with_any has 16 w) fun a2 hF2 => ?_
      refine sy hF2 rfl (by omega) (hF2.ny g43 true) (v := .bool true) (by simp only [execOp, hF2.eval 52 (by omega)]; simp [upd, h1, h2, h5, hp, go_sem, Act.eval]) fun a3 hF3 => ?_
      refine sn hF3 rfl (by omega) (hF3.ny g46 true) fun a4 hF4 => ?_
      refine sn hF4 rfl (by omega) (hF4.ny g46 true) fun a5 hF5 => ?_
      refine sn hF5 rfl (by omega) (hF5.ny g46 true) fun a6 hF6 => ?_
      refine sn hF6 rfl (by omega) (hF6.ny g46 true) fun a7 hF7 => ?_
      refine sn hF7 rfl (by omega) (hF7.nn g50) fun a8 hF8 => ?_
      refine sn hF8 rfl (by omega) (hF8.nn g50) fun a9 hF9 => ?_
      refine sn hF9 rfl (by omega) (hF9.nn g50) fun a10 hF10 => ?_
      refine sn hF10 rfl (by omega) (hF10.ny g46 true) fun a11 hF11 => ?_
      refine sy hF11 rfl (by omega) (hF11.ny g43 true) (v := .bool true) (by simp only [execOp, hF11.eval 53 (by omega), hF11.eval 61 (by omega)]; simp [upd, h1, h2, h5, hp, go_sem, Act.eval]) fun a12 hF12 => ?_
      refine sy hF12 rfl (by omega) wn (v := .bool true) (by simp only [execOp, hF12.eval 50 (by omega), hF12.eval 62 (by omega)]; simp [upd, h1, h2, h5, hp, go_sem, Act.eval]) fun a13 hF13 => ?_
      exact h _ _ hF13 (by simp [upd, h1]) (by simp [upd, h2]) (by simp [upd, h5]) (by simp only [hW]; simp [upd])
    | false =>
      cases hE0 : (cap == 0) with
      | false =>
        have hE : (cap == 0 && recaps == 0) = false := by rw [hE0]; rfl
        refine sy hF rfl (by omega) wn (v := .bool true) (by simp only [execOp, hF.eval 49 (by omega)]; simp [upd, h1, h2, h5, hp, go_sem, Act.eval]) fun a0 hF0 => ?_
        refine sy hF0 rfl (by omega) (hF0.ny g43 true) (v := .int .u64 has) (by simp only [execOp, hF0.eval 1 (by omega)]; simp [upd, h1, h2, h5, hp, go_sem, Act.eval]) fun a1 hF1 => ?_
        refine sc hF1 rfl (by omega) (hF1.ny g43 true) (k := 69) (args := #[.int .u64 has, .int .u64 16]) (by simp only [execOp, resolve, invoke, List.map_toArray, List.map_cons, List.map_nil, hF1.eval 51 (by omega)]; simp [upd, h1, h2, h5, hp, go_sem, Act.eval]) (v := .bool false) (by rw [← hW]; exact with_any has 16 w) fun a2 hF2 => ?_
        refine sy hF2 rfl (by omega) (hF2.ny g43 true) (v := .bool false) (by simp only [execOp, hF2.eval 52 (by omega)]; simp [upd, h1, h2, h5, hp, go_sem, Act.eval]) fun a3 hF3 => ?_
        refine sy hF3 rfl (by omega) (hF3.ny g46 false) (v := .pointer (some ⟨mb, 2, none⟩)) (by simp only [execOp, hF3.eval 2 (by omega)]; simp [upd, h1, h2, h5, hp, go_sem, Act.eval]) fun a4 hF4 => ?_
        refine sy hF4 rfl (by omega) (hF4.ny g46 false) (v := .int .i64 cap) (by simp only [execOp, hF4.eval 54 (by omega)]; simp [upd, h1, h2, h5, hp, go_sem, c2, c3]) fun a5 hF5 => ?_
        refine sy hF5 rfl (by omega) (hF5.ny g46 false) (v := .bool false) (by simp only [execOp, hF5.eval 55 (by omega)]; simp [upd, h1, h2, h5, hp, go_sem, Act.eval, hE0, hE]) fun a6 hF6 => ?_
        refine sy hF6 rfl (by omega) (hF6.ny g46 false) (v := .bool false) (by simp only [execOp, hF6.eval 56 (by omega)]; simp [upd, h1, h2, h5, hp, go_sem, Act.eval]) fun a7 hF7 => ?_
        refine sn hF7 rfl (by omega) (hF7.ny g50 false) fun a8 hF8 => ?_
        refine sn hF8 rfl (by omega) (hF8.ny g50 false) fun a9 hF9 => ?_
        refine sn hF9 rfl (by omega) (hF9.ny g50 false) fun a10 hF10 => ?_
        refine sy hF10 rfl (by omega) (hF10.ny g46 false) (v := .bool false) (by simp only [execOp, hF10.eval 57 (by omega), hF10.eval 60 (by omega)]; simp [upd, h1, h2, h5, hp, go_sem, Act.eval]) fun a11 hF11 => ?_
        refine sy hF11 rfl (by omega) (hF11.ny g43 true) (v := .bool false) (by simp only [execOp, hF11.eval 53 (by omega), hF11.eval 61 (by omega)]; simp [upd, h1, h2, h5, hp, go_sem, Act.eval]) fun a12 hF12 => ?_
        refine sy hF12 rfl (by omega) wn (v := .bool false) (by simp only [execOp, hF12.eval 50 (by omega), hF12.eval 62 (by omega)]; simp [upd, h1, h2, h5, hp, go_sem, Act.eval]) fun a13 hF13 => ?_
        exact h _ _ hF13 (by simp [upd, h1]) (by simp [upd, h2]) (by simp [upd, h5]) (by simp only [hW, hE]; simp [upd])
      | true =>
        cases hE : (recaps == 0) with
        | false =>
          refine sy hF rfl (by omega) wn (v := .bool true) (by simp only [execOp, hF.eval 49 (by omega)]; simp [upd, h1, h2, h5, hp, go_sem, Act.eval]) fun a0 hF0 => ?_
          refine sy hF0 rfl (by omega) (hF0.ny g43 true) (v := .int .u64 has) (by simp only [execOp, hF0.eval 1 (by omega)]; simp [upd, h1, h2, h5, hp, go_sem, Act.eval]) fun a1 hF1 => ?_
          refine sc hF1 rfl (by omega) (hF1.ny g43 true) (k := 69) (args := #[.int .u64 has, .int .u64 16]) (by simp only [execOp, resolve, invoke, List.map_toArray, List.map_cons, List.map_nil, hF1.eval 51 (by omega)]; simp [upd, h1, h2, h5, hp, go_sem, Act.eval]) (v := .bool false) (by rw [← hW]; exact with_any has 16 w) fun a2 hF2 => ?_
          refine sy hF2 rfl (by omega) (hF2.ny g43 true) (v := .bool false) (by simp only [execOp, hF2.eval 52 (by omega)]; simp [upd, h1, h2, h5, hp, go_sem, Act.eval]) fun a3 hF3 => ?_
          refine sy hF3 rfl (by omega) (hF3.ny g46 false) (v := .pointer (some ⟨mb, 2, none⟩)) (by simp only [execOp, hF3.eval 2 (by omega)]; simp [upd, h1, h2, h5, hp, go_sem, Act.eval]) fun a4 hF4 => ?_
          refine sy hF4 rfl (by omega) (hF4.ny g46 false) (v := .int .i64 cap) (by simp only [execOp, hF4.eval 54 (by omega)]; simp [upd, h1, h2, h5, hp, go_sem, c2, c3]) fun a5 hF5 => ?_
          refine sy hF5 rfl (by omega) (hF5.ny g46 false) (v := .bool true) (by simp only [execOp, hF5.eval 55 (by omega)]; simp [upd, h1, h2, h5, hp, go_sem, Act.eval, hE0, hE]) fun a6 hF6 => ?_
          refine sy hF6 rfl (by omega) (hF6.ny g46 false) (v := .bool true) (by simp only [execOp, hF6.eval 56 (by omega)]; simp [upd, h1, h2, h5, hp, go_sem, Act.eval]) fun a7 hF7 => ?_
          refine sy hF7 rfl (by omega) (hF7.ny g50 true) (v := .pointer (some ⟨mb, 3, none⟩)) (by simp only [execOp, hF7.eval 2 (by omega)]; simp [upd, h1, h2, h5, hp, go_sem, Act.eval]) fun a8 hF8 => ?_
          refine sy hF8 rfl (by omega) (hF8.ny g50 true) (v := .int .i64 recaps) (by simp only [execOp, hF8.eval 58 (by omega)]; simp [upd, h1, h2, h5, hp, go_sem, c2, c3]) fun a9 hF9 => ?_
          refine sy hF9 rfl (by omega) (hF9.ny g50 true) (v := .bool false) (by simp only [execOp, hF9.eval 59 (by omega)]; simp [upd, h1, h2, h5, hp, go_sem, Act.eval, hE0, hE]) fun a10 hF10 => ?_
          refine sy hF10 rfl (by omega) (hF10.ny g46 false) (v := .bool false) (by simp only [execOp, hF10.eval 57 (by omega), hF10.eval 60 (by omega)]; simp [upd, h1, h2, h5, hp, go_sem, Act.eval]) fun a11 hF11 => ?_
          refine sy hF11 rfl (by omega) (hF11.ny g43 true) (v := .bool false) (by simp only [execOp, hF11.eval 53 (by omega), hF11.eval 61 (by omega)]; simp [upd, h1, h2, h5, hp, go_sem, Act.eval]) fun a12 hF12 => ?_
          refine sy hF12 rfl (by omega) wn (v := .bool false) (by simp only [execOp, hF12.eval 50 (by omega), hF12.eval 62 (by omega)]; simp [upd, h1, h2, h5, hp, go_sem, Act.eval]) fun a13 hF13 => ?_
          exact h _ _ hF13 (by simp [upd, h1]) (by simp [upd, h2]) (by simp [upd, h5]) (by simp only [hW, hE0, hE]; simp [upd])
        | true =>
          refine sy hF rfl (by omega) wn (v := .bool true) (by simp only [execOp, hF.eval 49 (by omega)]; simp [upd, h1, h2, h5, hp, go_sem, Act.eval]) fun a0 hF0 => ?_
          refine sy hF0 rfl (by omega) (hF0.ny g43 true) (v := .int .u64 has) (by simp only [execOp, hF0.eval 1 (by omega)]; simp [upd, h1, h2, h5, hp, go_sem, Act.eval]) fun a1 hF1 => ?_
          refine sc hF1 rfl (by omega) (hF1.ny g43 true) (k := 69) (args := #[.int .u64 has, .int .u64 16]) (by simp only [execOp, resolve, invoke, List.map_toArray, List.map_cons, List.map_nil, hF1.eval 51 (by omega)]; simp [upd, h1, h2, h5, hp, go_sem, Act.eval]) (v := .bool false) (by rw [← hW]; exact with_any has 16 w) fun a2 hF2 => ?_
          refine sy hF2 rfl (by omega) (hF2.ny g43 true) (v := .bool false) (by simp only [execOp, hF2.eval 52 (by omega)]; simp [upd, h1, h2, h5, hp, go_sem, Act.eval]) fun a3 hF3 => ?_
          refine sy hF3 rfl (by omega) (hF3.ny g46 false) (v := .pointer (some ⟨mb, 2, none⟩)) (by simp only [execOp, hF3.eval 2 (by omega)]; simp [upd, h1, h2, h5, hp, go_sem, Act.eval]) fun a4 hF4 => ?_
          refine sy hF4 rfl (by omega) (hF4.ny g46 false) (v := .int .i64 cap) (by simp only [execOp, hF4.eval 54 (by omega)]; simp [upd, h1, h2, h5, hp, go_sem, c2, c3]) fun a5 hF5 => ?_
          refine sy hF5 rfl (by omega) (hF5.ny g46 false) (v := .bool true) (by simp only [execOp, hF5.eval 55 (by omega)]; simp [upd, h1, h2, h5, hp, go_sem, Act.eval, hE0, hE]) fun a6 hF6 => ?_
          refine sy hF6 rfl (by omega) (hF6.ny g46 false) (v := .bool true) (by simp only [execOp, hF6.eval 56 (by omega)]; simp [upd, h1, h2, h5, hp, go_sem, Act.eval]) fun a7 hF7 => ?_
          refine sy hF7 rfl (by omega) (hF7.ny g50 true) (v := .pointer (some ⟨mb, 3, none⟩)) (by simp only [execOp, hF7.eval 2 (by omega)]; simp [upd, h1, h2, h5, hp, go_sem, Act.eval]) fun a8 hF8 => ?_
          refine sy hF8 rfl (by omega) (hF8.ny g50 true) (v := .int .i64 recaps) (by simp only [execOp, hF8.eval 58 (by omega)]; simp [upd, h1, h2, h5, hp, go_sem, c2, c3]) fun a9 hF9 => ?_
          refine sy hF9 rfl (by omega) (hF9.ny g50 true) (v := .bool true) (by simp only [execOp, hF9.eval 59 (by omega)]; simp [upd, h1, h2, h5, hp, go_sem, Act.eval, hE0, hE]) fun a10 hF10 => ?_
          refine sy hF10 rfl (by omega) (hF10.ny g46 false) (v := .bool true) (by simp only [execOp, hF10.eval 57 (by omega), hF10.eval 60 (by omega)]; simp [upd, h1, h2, h5, hp, go_sem, Act.eval]) fun a11 hF11 => ?_
          refine sy hF11 rfl (by omega) (hF11.ny g43 true) (v := .bool true) (by simp only [execOp, hF11.eval 53 (by omega), hF11.eval 61 (by omega)]; simp [upd, h1, h2, h5, hp, go_sem, Act.eval]) fun a12 hF12 => ?_
          refine sy hF12 rfl (by omega) wn (v := .bool true) (by simp only [execOp, hF12.eval 50 (by omega), hF12.eval 62 (by omega)]; simp [upd, h1, h2, h5, hp, go_sem, Act.eval]) fun a13 hF13 => ?_
          exact h _ _ hF13 (by simp [upd, h1]) (by simp [upd, h2]) (by simp [upd, h5]) (by simp only [hW, hE0, hE]; simp [upd])
end Go.Proofs.Ytfgnlfemckdfnaa
