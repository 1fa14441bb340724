import Derived.Test.YtfgnlfemckdfnaaJD
namespace Go.Proofs.Ytfgnlfemckdfnaa
open Go.RowKit Go.PlainAid
set_option linter.unusedSimpArgs false
set_option linter.unusedVariables false
set_option maxRecDepth 100000 in
set_option maxHeartbeats 1600000 in
theorem ck_call (ops : Array Oper) (Q : Exit → Act → World → Prop) (rest : List Oper) (a : Act) (f : Nat → Value) (w : World) (hF : Fr 116 a f) (mb zb : Nat) (has : Int) (P : Bool) (session id' : Int)
    (h1 : f 1 = .int .u64 has) (h2 : f 2 = .pointer (some ⟨mb, 0, none⟩)) (h5 : f 5 = .pointer (some ⟨zb, 0, none⟩)) (hp : f 9 = .bool P) (g3 : (ops[3]?).bind (·.dst) = some 10) (g6 : (ops[6]?).bind (·.dst) = some 13) (c11 : w.cell? ⟨mb, 11, none⟩ = some (.int .i64 session)) (c12 : w.cell? ⟨mb, 12, none⟩ = some (.int .i64 id')) (z11 : w.cell? ⟨zb, 11, none⟩ = some (.int .i64 0)) (z12 : w.cell? ⟨zb, 12, none⟩ = some (.int .i64 0))
    {s0 s1 s2 s3 s4 s5 s6 s7 s8 s9 s10 : String} {ty0 ty1 ty2 ty3 ty4 ty5 ty6 ty7 ty8 ty9 ty10 : TypeId} {af0 af1 af2 af3 af4 af5 af6 af7 af8 af9 af10 : Array Edge}
    (h : ∀ a' f', Fr 116 a' f' → f' 1 = .int .u64 has → f' 2 = .pointer (some ⟨mb, 0, none⟩) → f' 5 = .pointer (some ⟨zb, 0, none⟩) → f' 20 = .bool (P && ((bits .and .u64 has 1 != 0) || (session == 0 && id' == 0))) → wpList Try.prog ops Q rest a' w) :
    wpList Try.prog ops Q ({ dst := some 10, op := .move (.tmp 9), type := ty0, pos := s0, after := af0, guard := none } ::
      { dst := some 11, op := .move (.tmp 1), type := ty1, pos := s1, after := af1, guard := some (3, true) } ::
      { dst := some 12, op := .call { callee := .value (.func 69), args := #[.tmp 11, .const (.int .u64 1)], argTypes := #[78, 78] }, type := ty2, pos := s2, after := af2, guard := some (3, true) } ::
      { dst := some 13, op := .move (.tmp 12), type := ty3, pos := s3, after := af3, guard := some (3, true) } ::
      { dst := some 14, op := .fieldAddr 35 (.tmp 2) 8, type := ty4, pos := s4, after := af4, guard := some (6, false) } ::
      { dst := some 15, op := .load 29 (.tmp 14), type := ty5, pos := s5, after := af5, guard := some (6, false) } ::
      { dst := some 16, op := .fieldAddr 35 (.tmp 5) 8, type := ty6, pos := s6, after := af6, guard := some (6, false) } ::
      { dst := some 17, op := .load 29 (.tmp 16), type := ty7, pos := s7, after := af7, guard := some (6, false) } ::
      { dst := some 18, op := .binOp .eql 29 (.tmp 15) (.tmp 17) 29, type := ty8, pos := s8, after := af8, guard := some (6, false) } ::
      { dst := some 19, op := .pick (.tmp 13) (.const (.bool true)) (.tmp 18), type := ty9, pos := s9, after := af9, guard := some (3, true) } ::
      { dst := some 20, op := .pick (.tmp 10) (.tmp 19) (.const (.bool false)), type := ty10, pos := s10, after := af10, guard := none } :: rest) a w := by
  try unfold Str at *
  cases P with
  | false =>
    refine sy hF rfl (by omega) wn (v := .bool false) (by simp only [execOp, hF.eval 9 (by omega)]; simp [upd, h1, h2, h5, hp, go_sem, Act.eval]) fun a0 hF0 => ?_
    refine sn hF0 rfl (by omega) (hF0.ny g3 false) fun a1 hF1 => ?_
    refine sn hF1 rfl (by omega) (hF1.ny g3 false) fun a2 hF2 => ?_
    refine sn hF2 rfl (by omega) (hF2.ny g3 false) fun a3 hF3 => ?_
    refine sn hF3 rfl (by omega) (hF3.nn g6) fun a4 hF4 => ?_
    refine sn hF4 rfl (by omega) (hF4.nn g6) fun a5 hF5 => ?_
    refine sn hF5 rfl (by omega) (hF5.nn g6) fun a6 hF6 => ?_
    refine sn hF6 rfl (by omega) (hF6.nn g6) fun a7 hF7 => ?_
    refine sn hF7 rfl (by omega) (hF7.nn g6) fun a8 hF8 => ?_
    refine sn hF8 rfl (by omega) (hF8.ny g3 false) fun a9 hF9 => ?_
    refine sy hF9 rfl (by omega) wn (v := .bool false) (by simp only [execOp, hF9.eval 10 (by omega), hF9.eval 19 (by omega)]; simp [upd, h1, h2, h5, hp, go_sem, Act.eval]) fun a10 hF10 => ?_
    exact h _ _ hF10 (by simp [upd, h1]) (by simp [upd, h2]) (by simp [upd, h5]) (by simp [upd])
  | true =>
    cases hW : (bits .and .u64 has 1 != 0) with
    | true =>
      refine sy hF rfl (by omega) wn (v := .bool true) (by simp only [execOp, hF.eval 9 (by omega)]; simp [upd, h1, h2, h5, hp, go_sem, Act.eval]) fun a0 hF0 => ?_
      refine sy hF0 rfl (by omega) (hF0.ny g3 true) (v := .int .u64 has) (by simp only [execOp, hF0.eval 1 (by omega)]; simp [upd, h1, h2, h5, hp, go_sem, Act.eval]) fun a1 hF1 => ?_
      refine sc hF1 rfl (by omega) (hF1.ny g3 true) (k := 69) (args := #[.int .u64 has, .int .u64 1]) (by simp only [execOp, resolve, invoke, List.map_toArray, List.map_cons, List.map_nil, hF1.eval 11 (by omega)]; simp [upd, h1, h2, h5, hp, go_sem, Act.eval]) (v := .bool true) (by rw [← hW]; exact with_any has 1 w) fun a2 hF2 => ?_
      refine sy hF2 rfl (by omega) (hF2.ny g3 true) (v := .bool true) (by simp only [execOp, hF2.eval 12 (by omega)]; simp [upd, h1, h2, h5, hp, go_sem, Act.eval]) fun a3 hF3 => ?_
      refine sn hF3 rfl (by omega) (hF3.ny g6 true) fun a4 hF4 => ?_
      refine sn hF4 rfl (by omega) (hF4.ny g6 true) fun a5 hF5 => ?_
      refine sn hF5 rfl (by omega) (hF5.ny g6 true) fun a6 hF6 => ?_
      refine sn hF6 rfl (by omega) (hF6.ny g6 true) fun a7 hF7 => ?_
      refine sn hF7 rfl (by omega) (hF7.ny g6 true) fun a8 hF8 => ?_
      refine sy hF8 rfl (by omega) (hF8.ny g3 true) (v := .bool true) (by simp only [execOp, hF8.eval 13 (by omega), hF8.eval 18 (by omega)]; simp [upd, h1, h2, h5, hp, go_sem, Act.eval]) fun a9 hF9 => ?_
      refine sy hF9 rfl (by omega) wn (v := .bool true) (by simp only [execOp, hF9.eval 10 (by omega), hF9.eval 19 (by omega)]; simp [upd, h1, h2, h5, hp, go_sem, Act.eval]) fun a10 hF10 => ?_
      exact h _ _ hF10 (by simp [upd, h1]) (by simp [upd, h2]) (by simp [upd, h5]) (by simp only [hW]; simp [upd])
    | false =>
      cases hE : (session == 0 && id' == 0) with
      | false =>
        have hE2 := hE
        simp at hE2
        refine sy hF rfl (by omega) wn (v := .bool true) (by simp only [execOp, hF.eval 9 (by omega)]; simp [upd, h1, h2, h5, hp, go_sem, Act.eval]) fun a0 hF0 => ?_
        refine sy hF0 rfl (by omega) (hF0.ny g3 true) (v := .int .u64 has) (by simp only [execOp, hF0.eval 1 (by omega)]; simp [upd, h1, h2, h5, hp, go_sem, Act.eval]) fun a1 hF1 => ?_
        refine sc hF1 rfl (by omega) (hF1.ny g3 true) (k := 69) (args := #[.int .u64 has, .int .u64 1]) (by simp only [execOp, resolve, invoke, List.map_toArray, List.map_cons, List.map_nil, hF1.eval 11 (by omega)]; simp [upd, h1, h2, h5, hp, go_sem, Act.eval]) (v := .bool false) (by rw [← hW]; exact with_any has 1 w) fun a2 hF2 => ?_
        refine sy hF2 rfl (by omega) (hF2.ny g3 true) (v := .bool false) (by simp only [execOp, hF2.eval 12 (by omega)]; simp [upd, h1, h2, h5, hp, go_sem, Act.eval]) fun a3 hF3 => ?_
        refine sy hF3 rfl (by omega) (hF3.ny g6 false) (v := .pointer (some ⟨mb, 11, none⟩)) (by simp only [execOp, hF3.eval 2 (by omega)]; simp [upd, h1, h2, h5, hp, go_sem, Act.eval]) fun a4 hF4 => ?_
        refine sy hF4 rfl (by omega) (hF4.ny g6 false) (v := .agg #[.int .i64 session, .int .i64 id']) (by simp only [execOp, hF4.eval 14 (by omega)]; simp [upd, h1, h2, h5, hp, go_sem, c11, c12, z11, z12]) fun a5 hF5 => ?_
        refine sy hF5 rfl (by omega) (hF5.ny g6 false) (v := .pointer (some ⟨zb, 11, none⟩)) (by simp only [execOp, hF5.eval 5 (by omega)]; simp [upd, h1, h2, h5, hp, go_sem, Act.eval]) fun a6 hF6 => ?_
        refine sy hF6 rfl (by omega) (hF6.ny g6 false) (v := .agg #[.int .i64 0, .int .i64 0]) (by simp only [execOp, hF6.eval 16 (by omega)]; simp [upd, h1, h2, h5, hp, go_sem, c11, c12, z11, z12]) fun a7 hF7 => ?_
        refine sy hF7 rfl (by omega) (hF7.ny g6 false) (v := .bool false) (by simp only [execOp, hF7.eval 15 (by omega), hF7.eval 17 (by omega)]; simp [upd, h1, h2, h5, hp, go_sem, Act.eval]; exact hE2) fun a8 hF8 => ?_
        refine sy hF8 rfl (by omega) (hF8.ny g3 true) (v := .bool false) (by simp only [execOp, hF8.eval 13 (by omega), hF8.eval 18 (by omega)]; simp [upd, h1, h2, h5, hp, go_sem, Act.eval]) fun a9 hF9 => ?_
        refine sy hF9 rfl (by omega) wn (v := .bool false) (by simp only [execOp, hF9.eval 10 (by omega), hF9.eval 19 (by omega)]; simp [upd, h1, h2, h5, hp, go_sem, Act.eval]) fun a10 hF10 => ?_
        exact h _ _ hF10 (by simp [upd, h1]) (by simp [upd, h2]) (by simp [upd, h5]) (by simp only [hW, hE]; simp [upd])
      | true =>
        have hE2 := hE
        simp at hE2
        refine sy hF rfl (by omega) wn (v := .bool true) (by simp only [execOp, hF.eval 9 (by omega)]; simp [upd, h1, h2, h5, hp, go_sem, Act.eval]) fun a0 hF0 => ?_
        refine sy hF0 rfl (by omega) (hF0.ny g3 true) (v := .int .u64 has) (by simp only [execOp, hF0.eval 1 (by omega)]; simp [upd, h1, h2, h5, hp, go_sem, Act.eval]) fun a1 hF1 => ?_
        refine sc hF1 rfl (by omega) (hF1.ny g3 true) (k := 69) (args := #[.int .u64 has, .int .u64 1]) (by simp only [execOp, resolve, invoke, List.map_toArray, List.map_cons, List.map_nil, hF1.eval 11 (by omega)]; simp [upd, h1, h2, h5, hp, go_sem, Act.eval]) (v := .bool false) (by rw [← hW]; exact with_any has 1 w) fun a2 hF2 => ?_
        refine sy hF2 rfl (by omega) (hF2.ny g3 true) (v := .bool false) (by simp only [execOp, hF2.eval 12 (by omega)]; simp [upd, h1, h2, h5, hp, go_sem, Act.eval]) fun a3 hF3 => ?_
        refine sy hF3 rfl (by omega) (hF3.ny g6 false) (v := .pointer (some ⟨mb, 11, none⟩)) (by simp only [execOp, hF3.eval 2 (by omega)]; simp [upd, h1, h2, h5, hp, go_sem, Act.eval]) fun a4 hF4 => ?_
        refine sy hF4 rfl (by omega) (hF4.ny g6 false) (v := .agg #[.int .i64 session, .int .i64 id']) (by simp only [execOp, hF4.eval 14 (by omega)]; simp [upd, h1, h2, h5, hp, go_sem, c11, c12, z11, z12]) fun a5 hF5 => ?_
        refine sy hF5 rfl (by omega) (hF5.ny g6 false) (v := .pointer (some ⟨zb, 11, none⟩)) (by simp only [execOp, hF5.eval 5 (by omega)]; simp [upd, h1, h2, h5, hp, go_sem, Act.eval]) fun a6 hF6 => ?_
        refine sy hF6 rfl (by omega) (hF6.ny g6 false) (v := .agg #[.int .i64 0, .int .i64 0]) (by simp only [execOp, hF6.eval 16 (by omega)]; simp [upd, h1, h2, h5, hp, go_sem, c11, c12, z11, z12]) fun a7 hF7 => ?_
        refine sy hF7 rfl (by omega) (hF7.ny g6 false) (v := .bool true) (by simp only [execOp, hF7.eval 15 (by omega), hF7.eval 17 (by omega)]; simp [upd, h1, h2, h5, hp, go_sem, Act.eval, hE2]) fun a8 hF8 => ?_
        refine sy hF8 rfl (by omega) (hF8.ny g3 true) (v := .bool true) (by simp only [execOp, hF8.eval 13 (by omega), hF8.eval 18 (by omega)]; simp [upd, h1, h2, h5, hp, go_sem, Act.eval]) fun a9 hF9 => ?_
        refine sy hF9 rfl (by omega) wn (v := .bool true) (by simp only [execOp, hF9.eval 10 (by omega), hF9.eval 19 (by omega)]; simp [upd, h1, h2, h5, hp, go_sem, Act.eval]) fun a10 hF10 => ?_
        exact h _ _ hF10 (by simp [upd, h1]) (by simp [upd, h2]) (by simp [upd, h5]) (by simp only [hW, hE]; simp [upd])
set_option maxRecDepth 100000 in
set_option maxHeartbeats 1600000 in
theorem ck_op (ops : Array Oper) (Q : Exit → Act → World → Prop) (rest : List Oper) (a : Act) (f : Nat → Value) (w : World) (hF : Fr 116 a f) (mb zb : Nat) (has : Int) (P : Bool) (okind oa ob : Int) (onm : List UInt8)
    (h1 : f 1 = .int .u64 has) (h2 : f 2 = .pointer (some ⟨mb, 0, none⟩)) (h5 : f 5 = .pointer (some ⟨zb, 0, none⟩)) (hp : f 20 = .bool P) (g14 : (ops[14]?).bind (·.dst) = some 21) (g17 : (ops[17]?).bind (·.dst) = some 24) (c13 : w.cell? ⟨mb, 13, none⟩ = some (.int .i64 okind)) (c14 : w.cell? ⟨mb, 14, none⟩ = some (Str onm)) (c15 : w.cell? ⟨mb, 15, none⟩ = some (.int .i64 oa)) (c16 : w.cell? ⟨mb, 16, none⟩ = some (.int .i64 ob)) (z13 : w.cell? ⟨zb, 13, none⟩ = some (.int .i64 0)) (z14 : w.cell? ⟨zb, 14, none⟩ = some (Str [])) (z15 : w.cell? ⟨zb, 15, none⟩ = some (.int .i64 0)) (z16 : w.cell? ⟨zb, 16, none⟩ = some (.int .i64 0))
    {s0 s1 s2 s3 s4 s5 s6 s7 s8 s9 s10 : String} {ty0 ty1 ty2 ty3 ty4 ty5 ty6 ty7 ty8 ty9 ty10 : TypeId} {af0 af1 af2 af3 af4 af5 af6 af7 af8 af9 af10 : Array Edge}
    (h : ∀ a' f', Fr 116 a' f' → f' 1 = .int .u64 has → f' 2 = .pointer (some ⟨mb, 0, none⟩) → f' 5 = .pointer (some ⟨zb, 0, none⟩) → f' 31 = .bool (P && ((bits .and .u64 has 2 != 0) || (okind == 0 && (onm == [] && (oa == 0 && ob == 0))))) → wpList Try.prog ops Q rest a' w) :
    wpList Try.prog ops Q ({ dst := some 21, op := .move (.tmp 20), type := ty0, pos := s0, after := af0, guard := none } ::
      { dst := some 22, op := .move (.tmp 1), type := ty1, pos := s1, after := af1, guard := some (14, true) } ::
      { dst := some 23, op := .call { callee := .value (.func 69), args := #[.tmp 22, .const (.int .u64 2)], argTypes := #[78, 78] }, type := ty2, pos := s2, after := af2, guard := some (14, true) } ::
      { dst := some 24, op := .move (.tmp 23), type := ty3, pos := s3, after := af3, guard := some (14, true) } ::
      { dst := some 25, op := .fieldAddr 35 (.tmp 2) 9, type := ty4, pos := s4, after := af4, guard := some (17, false) } ::
      { dst := some 26, op := .load 31 (.tmp 25), type := ty5, pos := s5, after := af5, guard := some (17, false) } ::
      { dst := some 27, op := .fieldAddr 35 (.tmp 5) 9, type := ty6, pos := s6, after := af6, guard := some (17, false) } ::
      { dst := some 28, op := .load 31 (.tmp 27), type := ty7, pos := s7, after := af7, guard := some (17, false) } ::
      { dst := some 29, op := .binOp .eql 31 (.tmp 26) (.tmp 28) 31, type := ty8, pos := s8, after := af8, guard := some (17, false) } ::
      { dst := some 30, op := .pick (.tmp 24) (.const (.bool true)) (.tmp 29), type := ty9, pos := s9, after := af9, guard := some (14, true) } ::
      { dst := some 31, op := .pick (.tmp 21) (.tmp 30) (.const (.bool false)), type := ty10, pos := s10, after := af10, guard := none } :: rest) a w := by
  try unfold Str at *
  cases P with
  | false =>
    refine sy hF rfl (by omega) wn (v := .bool false) (by simp only [execOp, hF.eval 20 (by omega)]; simp [upd, h1, h2, h5, hp, go_sem, Act.eval]) fun a0 hF0 => ?_
    refine sn hF0 rfl (by omega) (hF0.ny g14 false) fun a1 hF1 => ?_
    refine sn hF1 rfl (by omega) (hF1.ny g14 false) fun a2 hF2 => ?_
    refine sn hF2 rfl (by omega) (hF2.ny g14 false) fun a3 hF3 => ?_
    refine sn hF3 rfl (by omega) (hF3.nn g17) fun a4 hF4 => ?_
    refine sn hF4 rfl (by omega) (hF4.nn g17) fun a5 hF5 => ?_
    refine sn hF5 rfl (by omega) (hF5.nn g17) fun a6 hF6 => ?_
    refine sn hF6 rfl (by omega) (hF6.nn g17) fun a7 hF7 => ?_
    refine sn hF7 rfl (by omega) (hF7.nn g17) fun a8 hF8 => ?_
    refine sn hF8 rfl (by omega) (hF8.ny g14 false) fun a9 hF9 => ?_
    refine sy hF9 rfl (by omega) wn (v := .bool false) (by simp only [execOp, hF9.eval 21 (by omega), hF9.eval 30 (by omega)]; simp [upd, h1, h2, h5, hp, go_sem, Act.eval]) fun a10 hF10 => ?_
    exact h _ _ hF10 (by simp [upd, h1]) (by simp [upd, h2]) (by simp [upd, h5]) (by simp [upd])
  | true =>
    cases hW : (bits .and .u64 has 2 != 0) with
    | true =>
      refine sy hF rfl (by omega) wn (v := .bool true) (by simp only [execOp, hF.eval 20 (by omega)]; simp [upd, h1, h2, h5, hp, go_sem, Act.eval]) fun a0 hF0 => ?_
      refine sy hF0 rfl (by omega) (hF0.ny g14 true) (v := .int .u64 has) (by simp only [execOp, hF0.eval 1 (by omega)]; simp [upd, h1, h2, h5, hp, go_sem, Act.eval]) fun a1 hF1 => ?_
      refine sc hF1 rfl (by omega) (hF1.ny g14 true) (k := 69) (args := #[.int .u64 has, .int .u64 2]) (by simp only [execOp, resolve, invoke, List.map_toArray, List.map_cons, List.map_nil, hF1.eval 22 (by omega)]; simp [upd, h1, h2, h5, hp, go_sem, Act.eval]) (v := .bool true) (by rw [← hW]; exact with_any has 2 w) fun a2 hF2 => ?_
      refine sy hF2 rfl (by omega) (hF2.ny g14 true) (v := .bool true) (by simp only [execOp, hF2.eval 23 (by omega)]; simp [upd, h1, h2, h5, hp, go_sem, Act.eval]) fun a3 hF3 => ?_
      refine sn hF3 rfl (by omega) (hF3.ny g17 true) fun a4 hF4 => ?_
      refine sn hF4 rfl (by omega) (hF4.ny g17 true) fun a5 hF5 => ?_
      refine sn hF5 rfl (by omega) (hF5.ny g17 true) fun a6 hF6 => ?_
      refine sn hF6 rfl (by omega) (hF6.ny g17 true) fun a7 hF7 => ?_
      refine sn hF7 rfl (by omega) (hF7.ny g17 true) fun a8 hF8 => ?_
      refine sy hF8 rfl (by omega) (hF8.ny g14 true) (v := .bool true) (by simp only [execOp, hF8.eval 24 (by omega), hF8.eval 29 (by omega)]; simp [upd, h1, h2, h5, hp, go_sem, Act.eval]) fun a9 hF9 => ?_
      refine sy hF9 rfl (by omega) wn (v := .bool true) (by simp only [execOp, hF9.eval 21 (by omega), hF9.eval 30 (by omega)]; simp [upd, h1, h2, h5, hp, go_sem, Act.eval]) fun a10 hF10 => ?_
      exact h _ _ hF10 (by simp [upd, h1]) (by simp [upd, h2]) (by simp [upd, h5]) (by simp only [hW]; simp [upd])
    | false =>
      cases hE : (okind == 0 && (onm == [] && (oa == 0 && ob == 0))) with
      | false =>
        have hE2 := hE
        simp at hE2
        refine sy hF rfl (by omega) wn (v := .bool true) (by simp only [execOp, hF.eval 20 (by omega)]; simp [upd, h1, h2, h5, hp, go_sem, Act.eval]) fun a0 hF0 => ?_
        refine sy hF0 rfl (by omega) (hF0.ny g14 true) (v := .int .u64 has) (by simp only [execOp, hF0.eval 1 (by omega)]; simp [upd, h1, h2, h5, hp, go_sem, Act.eval]) fun a1 hF1 => ?_
        refine sc hF1 rfl (by omega) (hF1.ny g14 true) (k := 69) (args := #[.int .u64 has, .int .u64 2]) (by simp only [execOp, resolve, invoke, List.map_toArray, List.map_cons, List.map_nil, hF1.eval 22 (by omega)]; simp [upd, h1, h2, h5, hp, go_sem, Act.eval]) (v := .bool false) (by rw [← hW]; exact with_any has 2 w) fun a2 hF2 => ?_
        refine sy hF2 rfl (by omega) (hF2.ny g14 true) (v := .bool false) (by simp only [execOp, hF2.eval 23 (by omega)]; simp [upd, h1, h2, h5, hp, go_sem, Act.eval]) fun a3 hF3 => ?_
        refine sy hF3 rfl (by omega) (hF3.ny g17 false) (v := .pointer (some ⟨mb, 13, none⟩)) (by simp only [execOp, hF3.eval 2 (by omega)]; simp [upd, h1, h2, h5, hp, go_sem, Act.eval]) fun a4 hF4 => ?_
        refine sy hF4 rfl (by omega) (hF4.ny g17 false) (v := .agg #[.int .i64 okind, .string ⟨onm.toArray⟩, .int .i64 oa, .int .i64 ob]) (by simp only [execOp, hF4.eval 25 (by omega)]; simp [upd, h1, h2, h5, hp, go_sem, c13, c14, c15, c16, z13, z14, z15, z16]) fun a5 hF5 => ?_
        refine sy hF5 rfl (by omega) (hF5.ny g17 false) (v := .pointer (some ⟨zb, 13, none⟩)) (by simp only [execOp, hF5.eval 5 (by omega)]; simp [upd, h1, h2, h5, hp, go_sem, Act.eval]) fun a6 hF6 => ?_
        refine sy hF6 rfl (by omega) (hF6.ny g17 false) (v := .agg #[.int .i64 0, .string ⟨#[]⟩, .int .i64 0, .int .i64 0]) (by simp only [execOp, hF6.eval 27 (by omega)]; simp [upd, h1, h2, h5, hp, go_sem, c13, c14, c15, c16, z13, z14, z15, z16]) fun a7 hF7 => ?_
        refine sy hF7 rfl (by omega) (hF7.ny g17 false) (v := .bool false) (by simp only [execOp, hF7.eval 26 (by omega), hF7.eval 28 (by omega)]; simp [upd, h1, h2, h5, hp, go_sem, Act.eval]; exact hE2) fun a8 hF8 => ?_
        refine sy hF8 rfl (by omega) (hF8.ny g14 true) (v := .bool false) (by simp only [execOp, hF8.eval 24 (by omega), hF8.eval 29 (by omega)]; simp [upd, h1, h2, h5, hp, go_sem, Act.eval]) fun a9 hF9 => ?_
        refine sy hF9 rfl (by omega) wn (v := .bool false) (by simp only [execOp, hF9.eval 21 (by omega), hF9.eval 30 (by omega)]; simp [upd, h1, h2, h5, hp, go_sem, Act.eval]) fun a10 hF10 => ?_
        exact h _ _ hF10 (by simp [upd, h1]) (by simp [upd, h2]) (by simp [upd, h5]) (by simp only [hW, hE]; simp [upd])
      | true =>
        have hE2 := hE
        simp at hE2
        refine sy hF rfl (by omega) wn (v := .bool true) (by simp only [execOp, hF.eval 20 (by omega)]; simp [upd, h1, h2, h5, hp, go_sem, Act.eval]) fun a0 hF0 => ?_
        refine sy hF0 rfl (by omega) (hF0.ny g14 true) (v := .int .u64 has) (by simp only [execOp, hF0.eval 1 (by omega)]; simp [upd, h1, h2, h5, hp, go_sem, Act.eval]) fun a1 hF1 => ?_
        refine sc hF1 rfl (by omega) (hF1.ny g14 true) (k := 69) (args := #[.int .u64 has, .int .u64 2]) (by simp only [execOp, resolve, invoke, List.map_toArray, List.map_cons, List.map_nil, hF1.eval 22 (by omega)]; simp [upd, h1, h2, h5, hp, go_sem, Act.eval]) (v := .bool false) (by rw [← hW]; exact with_any has 2 w) fun a2 hF2 => ?_
        refine sy hF2 rfl (by omega) (hF2.ny g14 true) (v := .bool false) (by simp only [execOp, hF2.eval 23 (by omega)]; simp [upd, h1, h2, h5, hp, go_sem, Act.eval]) fun a3 hF3 => ?_
        refine sy hF3 rfl (by omega) (hF3.ny g17 false) (v := .pointer (some ⟨mb, 13, none⟩)) (by simp only [execOp, hF3.eval 2 (by omega)]; simp [upd, h1, h2, h5, hp, go_sem, Act.eval]) fun a4 hF4 => ?_
        refine sy hF4 rfl (by omega) (hF4.ny g17 false) (v := .agg #[.int .i64 okind, .string ⟨onm.toArray⟩, .int .i64 oa, .int .i64 ob]) (by simp only [execOp, hF4.eval 25 (by omega)]; simp [upd, h1, h2, h5, hp, go_sem, c13, c14, c15, c16, z13, z14, z15, z16]) fun a5 hF5 => ?_
        refine sy hF5 rfl (by omega) (hF5.ny g17 false) (v := .pointer (some ⟨zb, 13, none⟩)) (by simp only [execOp, hF5.eval 5 (by omega)]; simp [upd, h1, h2, h5, hp, go_sem, Act.eval]) fun a6 hF6 => ?_
        refine sy hF6 rfl (by omega) (hF6.ny g17 false) (v := .agg #[.int .i64 0, .string ⟨#[]⟩, .int .i64 0, .int .i64 0]) (by simp only [execOp, hF6.eval 27 (by omega)]; simp [upd, h1, h2, h5, hp, go_sem, c13, c14, c15, c16, z13, z14, z15, z16]) fun a7 hF7 => ?_
        refine sy hF7 rfl (by omega) (hF7.ny g17 false) (v := .bool true) (by simp only [execOp, hF7.eval 26 (by omega), hF7.eval 28 (by omega)]; simp [upd, h1, h2, h5, hp, go_sem, Act.eval, hE2]) fun a8 hF8 => ?_
        refine sy hF8 rfl (by omega) (hF8.ny g14 true) (v := .bool true) (by simp only [execOp, hF8.eval 24 (by omega), hF8.eval 29 (by omega)]; simp [upd, h1, h2, h5, hp, go_sem, Act.eval]) fun a9 hF9 => ?_
        refine sy hF9 rfl (by omega) wn (v := .bool true) (by simp only [execOp, hF9.eval 21 (by omega), hF9.eval 30 (by omega)]; simp [upd, h1, h2, h5, hp, go_sem, Act.eval]) fun a10 hF10 => ?_
        exact h _ _ hF10 (by simp [upd, h1]) (by simp [upd, h2]) (by simp [upd, h5]) (by simp only [hW, hE]; simp [upd])
set_option maxRecDepth 100000 in
set_option maxHeartbeats 1600000 in
theorem ck_name (ops : Array Oper) (Q : Exit → Act → World → Prop) (rest : List Oper) (a : Act) (f : Nat → Value) (w : World) (hF : Fr 116 a f) (mb zb : Nat) (has : Int) (P : Bool) (nm : List UInt8)
    (h1 : f 1 = .int .u64 has) (h2 : f 2 = .pointer (some ⟨mb, 0, none⟩)) (h5 : f 5 = .pointer (some ⟨zb, 0, none⟩)) (hp : f 31 = .bool P) (g25 : (ops[25]?).bind (·.dst) = some 32) (g28 : (ops[28]?).bind (·.dst) = some 35) (c1 : w.cell? ⟨mb, 1, none⟩ = some (Str nm))
    {s0 s1 s2 s3 s4 s5 s6 s7 s8 : String} {ty0 ty1 ty2 ty3 ty4 ty5 ty6 ty7 ty8 : TypeId} {af0 af1 af2 af3 af4 af5 af6 af7 af8 : Array Edge}
    (h : ∀ a' f', Fr 116 a' f' → f' 1 = .int .u64 has → f' 2 = .pointer (some ⟨mb, 0, none⟩) → f' 5 = .pointer (some ⟨zb, 0, none⟩) → f' 40 = .bool (P && ((bits .and .u64 has 4 != 0) || (nm == []))) → wpList Try.prog ops Q rest a' w) :
    wpList Try.prog ops Q ({ dst := some 32, op := .move (.tmp 31), type := ty0, pos := s0, after := af0, guard := none } ::
      { dst := some 33, op := .move (.tmp 1), type := ty1, pos := s1, after := af1, guard := some (25, true) } ::
      { dst := some 34, op := .call { callee := .value (.func 69), args := #[.tmp 33, .const (.int .u64 4)], argTypes := #[78, 78] }, type := ty2, pos := s2, after := af2, guard := some (25, true) } ::
      { dst := some 35, op := .move (.tmp 34), type := ty3, pos := s3, after := af3, guard := some (25, true) } ::
      { dst := some 36, op := .fieldAddr 35 (.tmp 2) 1, type := ty4, pos := s4, after := af4, guard := some (28, false) } ::
      { dst := some 37, op := .load 9 (.tmp 36), type := ty5, pos := s5, after := af5, guard := some (28, false) } ::
      { dst := some 38, op := .binOp .eql 9 (.tmp 37) (.const (.string ⟨#[]⟩)) 9, type := ty6, pos := s6, after := af6, guard := some (28, false) } ::
      { dst := some 39, op := .pick (.tmp 35) (.const (.bool true)) (.tmp 38), type := ty7, pos := s7, after := af7, guard := some (25, true) } ::
      { dst := some 40, op := .pick (.tmp 32) (.tmp 39) (.const (.bool false)), type := ty8, pos := s8, after := af8, guard := none } :: rest) a w := by
  try unfold Str at *
  cases P with
  | false =>
    refine sy hF rfl (by omega) wn (v := .bool false) (by simp only [execOp, hF.eval 31 (by omega)]; simp [upd, h1, h2, h5, hp, go_sem, Act.eval]) fun a0 hF0 => ?_
    refine sn hF0 rfl (by omega) (hF0.ny g25 false) fun a1 hF1 => ?_
    refine sn hF1 rfl (by omega) (hF1.ny g25 false) fun a2 hF2 => ?_
    refine sn hF2 rfl (by omega) (hF2.ny g25 false) fun a3 hF3 => ?_
    refine sn hF3 rfl (by omega) (hF3.nn g28) fun a4 hF4 => ?_
    refine sn hF4 rfl (by omega) (hF4.nn g28) fun a5 hF5 => ?_
    refine sn hF5 rfl (by omega) (hF5.nn g28) fun a6 hF6 => ?_
    refine sn hF6 rfl (by omega) (hF6.ny g25 false) fun a7 hF7 => ?_
    refine sy hF7 rfl (by omega) wn (v := .bool false) (by simp only [execOp, hF7.eval 32 (by omega), hF7.eval 39 (by omega)]; simp [upd, h1, h2, h5, hp, go_sem, Act.eval]) fun a8 hF8 => ?_
    exact h _ _ hF8 (by simp [upd, h1]) (by simp [upd, h2]) (by simp [upd, h5]) (by simp [upd])
  | true =>
    cases hW : (bits .and .u64 has 4 != 0) with
    | true =>
      refine sy hF rfl (by omega) wn (v := .bool true) (by simp only [execOp, hF.eval 31 (by omega)]; simp [upd, h1, h2, h5, hp, go_sem, Act.eval]) fun a0 hF0 => ?_
      refine sy hF0 rfl (by omega) (hF0.ny g25 true) (v := .int .u64 has) (by simp only [execOp, hF0.eval 1 (by omega)]; simp [upd, h1, h2, h5, hp, go_sem, Act.eval]) fun a1 hF1 => ?_
      refine sc hF1 rfl (by omega) (hF1.ny g25 true) (k := 69) (args := #[.int .u64 has, .int .u64 4]) (by simp only [execOp, resolve, invoke, List.map_toArray, List.map_cons, List.map_nil, hF1.eval 33 (by omega)]; simp [upd, h1, h2, h5, hp, go_sem, Act.eval]) (v := .bool true) (by rw [← hW]; exact with_any has 4 w) fun a2 hF2 => ?_
      refine sy hF2 rfl (by omega) (hF2.ny g25 true) (v := .bool true) (by simp only [execOp, hF2.eval 34 (by omega)]; simp [upd, h1, h2, h5, hp, go_sem, Act.eval]) fun a3 hF3 => ?_
      refine sn hF3 rfl (by omega) (hF3.ny g28 true) fun a4 hF4 => ?_
      refine sn hF4 rfl (by omega) (hF4.ny g28 true) fun a5 hF5 => ?_
      refine sn hF5 rfl (by omega) (hF5.ny g28 true) fun a6 hF6 => ?_
      refine sy hF6 rfl (by omega) (hF6.ny g25 true) (v := .bool true) (by simp only [execOp, hF6.eval 35 (by omega), hF6.eval 38 (by omega)]; simp [upd, h1, h2, h5, hp, go_sem, Act.eval]) fun a7 hF7 => ?_
      refine sy hF7 rfl (by omega) wn (v := .bool true) (by simp only [execOp, hF7.eval 32 (by omega), hF7.eval 39 (by omega)]; simp [upd, h1, h2, h5, hp, go_sem, Act.eval]) fun a8 hF8 => ?_
      exact h _ _ hF8 (by simp [upd, h1]) (by simp [upd, h2]) (by simp [upd, h5]) (by simp only [hW]; simp [upd])
    | false =>
      cases hE : (nm == []) with
      | false =>
        refine sy hF rfl (by omega) wn (v := .bool true) (by simp only [execOp, hF.eval 31 (by omega)]; simp [upd, h1, h2, h5, hp, go_sem, Act.eval]) fun a0 hF0 => ?_
        refine sy hF0 rfl (by omega) (hF0.ny g25 true) (v := .int .u64 has) (by simp only [execOp, hF0.eval 1 (by omega)]; simp [upd, h1, h2, h5, hp, go_sem, Act.eval]) fun a1 hF1 => ?_
        refine sc hF1 rfl (by omega) (hF1.ny g25 true) (k := 69) (args := #[.int .u64 has, .int .u64 4]) (by simp only [execOp, resolve, invoke, List.map_toArray, List.map_cons, List.map_nil, hF1.eval 33 (by omega)]; simp [upd, h1, h2, h5, hp, go_sem, Act.eval]) (v := .bool false) (by rw [← hW]; exact with_any has 4 w) fun a2 hF2 => ?_
        refine sy hF2 rfl (by omega) (hF2.ny g25 true) (v := .bool false) (by simp only [execOp, hF2.eval 34 (by omega)]; simp [upd, h1, h2, h5, hp, go_sem, Act.eval]) fun a3 hF3 => ?_
        refine sy hF3 rfl (by omega) (hF3.ny g28 false) (v := .pointer (some ⟨mb, 1, none⟩)) (by simp only [execOp, hF3.eval 2 (by omega)]; simp [upd, h1, h2, h5, hp, go_sem, Act.eval]) fun a4 hF4 => ?_
        refine sy hF4 rfl (by omega) (hF4.ny g28 false) (v := .string ⟨nm.toArray⟩) (by simp only [execOp, hF4.eval 36 (by omega)]; simp [upd, h1, h2, h5, hp, go_sem, c1]) fun a5 hF5 => ?_
        refine sy hF5 rfl (by omega) (hF5.ny g28 false) (v := .bool false) (by simp only [execOp, hF5.eval 37 (by omega)]; simp [upd, h1, h2, h5, hp, go_sem, Act.eval, hE]) fun a6 hF6 => ?_
        refine sy hF6 rfl (by omega) (hF6.ny g25 true) (v := .bool false) (by simp only [execOp, hF6.eval 35 (by omega), hF6.eval 38 (by omega)]; simp [upd, h1, h2, h5, hp, go_sem, Act.eval]) fun a7 hF7 => ?_
        refine sy hF7 rfl (by omega) wn (v := .bool false) (by simp only [execOp, hF7.eval 32 (by omega), hF7.eval 39 (by omega)]; simp [upd, h1, h2, h5, hp, go_sem, Act.eval]) fun a8 hF8 => ?_
        exact h _ _ hF8 (by simp [upd, h1]) (by simp [upd, h2]) (by simp [upd, h5]) (by simp only [hW, hE]; simp [upd])
      | true =>
        refine sy hF rfl (by omega) wn (v := .bool true) (by simp only [execOp, hF.eval 31 (by omega)]; simp [upd, h1, h2, h5, hp, go_sem, Act.eval]) fun a0 hF0 => ?_
        refine sy hF0 rfl (by omega) (hF0.ny g25 true) (v := .int .u64 has) (by simp only [execOp, hF0.eval 1 (by omega)]; simp [upd, h1, h2, h5, hp, go_sem, Act.eval]) fun a1 hF1 => ?_
        refine sc hF1 rfl (by omega) (hF1.ny g25 true) (k := 69) (args := #[.int .u64 has, .int .u64 4]) (by simp only [execOp, resolve, invoke, List.map_toArray, List.map_cons, List.map_nil, hF1.eval 33 (by omega)]; simp [upd, h1, h2, h5, hp, go_sem, Act.eval]) (v := .bool false) (by rw [← hW]; exact with_any has 4 w) fun a2 hF2 => ?_
        refine sy hF2 rfl (by omega) (hF2.ny g25 true) (v := .bool false) (by simp only [execOp, hF2.eval 34 (by omega)]; simp [upd, h1, h2, h5, hp, go_sem, Act.eval]) fun a3 hF3 => ?_
        refine sy hF3 rfl (by omega) (hF3.ny g28 false) (v := .pointer (some ⟨mb, 1, none⟩)) (by simp only [execOp, hF3.eval 2 (by omega)]; simp [upd, h1, h2, h5, hp, go_sem, Act.eval]) fun a4 hF4 => ?_
        refine sy hF4 rfl (by omega) (hF4.ny g28 false) (v := .string ⟨nm.toArray⟩) (by simp only [execOp, hF4.eval 36 (by omega)]; simp [upd, h1, h2, h5, hp, go_sem, c1]) fun a5 hF5 => ?_
        refine sy hF5 rfl (by omega) (hF5.ny g28 false) (v := .bool true) (by simp only [execOp, hF5.eval 37 (by omega)]; simp [upd, h1, h2, h5, hp, go_sem, Act.eval, hE]) fun a6 hF6 => ?_
        refine sy hF6 rfl (by omega) (hF6.ny g25 true) (v := .bool true) (by simp only [execOp, hF6.eval 35 (by omega), hF6.eval 38 (by omega)]; simp [upd, h1, h2, h5, hp, go_sem, Act.eval]) fun a7 hF7 => ?_
        refine sy hF7 rfl (by omega) wn (v := .bool true) (by simp only [execOp, hF7.eval 32 (by omega), hF7.eval 39 (by omega)]; simp [upd, h1, h2, h5, hp, go_sem, Act.eval]) fun a8 hF8 => ?_
        exact h _ _ hF8 (by simp [upd, h1]) (by simp [upd, h2]) (by simp [upd, h5]) (by simp only [hW, hE]; simp [upd])
end Go.Proofs.Ytfgnlfemckdfnaa
