import Derived.Test.YtcjgicfmfjomgaaLk0
import Derived.BigQuiet
namespace Go.Proofs.Ytcjgicfmfjomgaa
open Go.RowKit Go.PlainAid Go.MapKept
set_option linter.unusedVariables false
set_option linter.unusedSimpArgs false
theorem wpList_runs {ops : Array Oper} {rest : List Oper} {o : Oper} {a : Act} {Q : Exit → Act → World → Prop} {w w' : World} (hgd : o.guard = none) (s x : Operand) (t : TypeId) (ho : o.op = .call { callee := .builtin .append, args := #[s, x], argTypes := #[t, t] }) {v y v' : Value} (hs : a.eval s = v) (hx : a.eval x = y)
    (hr : ∀ ty, (Builtin.append_ #[t, t] ty #[v, y]).run Try.prog w = .ok v' w') (h : wpList Try.prog ops Q rest (a.put o.dst v') w') : wpList Try.prog ops Q (o :: rest) a w := by
  refine wpList_plain hgd fun K hK => ?_
  unfold Oper.wp execOp
  simp only [ho, resolve, invoke, builtin, Sem.run_bind, Sem.run_pure, Result.andThen_ok, List.map_toArray, List.map_cons, List.map_nil, hs, hx, hr]
  exact hK _ _ h
/-- Bytes that a slice holds, wherever it begins. -/
def By (w : World) (v : Value) (s : List UInt8) : Prop := ∃ ao k c, v = .slice ao k c ∧ s.length = k ∧ (ao = none → k = 0 ∧ c = 0) ∧ ∀ ad, ao = some ad → ∀ j u, (s.map B)[j]? = some u → w.cell? (ad.add j) = some u
theorem By.keep {w w' : World} {v : Value} {s : List UInt8} (h : By w v s) (hb : Below w.heap.size w w') : By w' v s := by
  obtain ⟨ao, k, c, h1, h2, h3, h4⟩ := h
  refine ⟨ao, k, c, h1, h2, h3, fun ad e j u hu => ?_⟩
  have := h4 ad e j u hu
  exact (hb.cell (World.block_lt_of_cell? w _ this)).trans this
theorem own_by {w : World} {L : Nat} {v : Value} {s : List UInt8} (h : w.ownsRow L 5 1 v s.length (s.map B)) : By w v s := by
  rcases h.2 with ⟨h1, h2⟩ | ⟨g, cap, cur, h1, h3⟩
  · exact ⟨none, 0, 0, h1, h2, (fun _ => ⟨rfl, rfl⟩), (fun ad e => by cases e)⟩
  · exact ⟨some ⟨g, 0, none⟩, s.length, cap, h1, rfl, (fun e => by cases e), fun ad e j u hu => by
      cases e
      subst h1
      exact h.cells (g := g) rfl j u hu⟩
theorem oneB (s : List UInt8) : ∀ u ∈ s.map B, u.oneCell' = true := by
  intro u hu
  obtain ⟨b, _, rfl⟩ := List.mem_map.1 hu
  rfl
set_option maxRecDepth 100000 in
set_option maxHeartbeats 800000 in
/-- bytes.Clone. -/
theorem clone_any {v : Value} {s : List UInt8} (w : World) (h : By w v s) (hs : s.length ≤ 1000000) :
    Calls Try.prog 32 #[v] w fun e w' => ∃ v', e = .returned v' ∧ w'.ownsRow w.heap.size 5 1 v' s.length (s.map B) ∧ Below w.heap.size w w' := by
  have q41 : ∀ (w : World) (a : Option Addr) (n c n' c' : Nat), (binOp .eql 41 (.slice a n c) (.slice none n' c')).run Try.prog w = .ok (.bool a.isNone) w := fun w a n c n' c' => Lib.run_eql_slice_nil w _ _ a n c n' c' Try.underlying41
  obtain ⟨ao, k, c, rfl, hk, hnil, hc⟩ := h
  cases ao with
  | none =>
    obtain ⟨rfl, rfl⟩ := hnil rfl
    obtain rfl : s = [] := List.eq_nil_of_length_eq_zero hk
    clear hc hnil
    go_enter Try.func32, Try.ntmps32
    go_wp2_with fail
    go_ret
    exact ⟨_, rfl, World.ownsRow_nil _ _ _ _, Below.refl _ _⟩
  | some ad =>
    have hal : Below w.heap.size w (w.alloc (.cells #[] 5)) := (Below.refl _ _).alloc (Nat.le_refl _) _
    have hown : (w.alloc (.cells #[] 5)).ownsRow w.heap.size 5 1 (.slice (some ⟨w.heap.size, 0, none⟩) 0 0) 0 [] := World.ownsRow_made w #[] 0 (Nat.le_refl _) (Nat.zero_le _) rfl
    obtain ⟨v5, w5, hr5, ho5, hg5⟩ := app_rows 41 5 (.int .u8 0) 1 1 Try.underlying41 info5 rfl (by decide) (by decide) hown (ao := some ad) (m := k) (cap := c) (ys := s.map B) (by simp [hk]) (fun e => by cases e) (fun ad' e j u hu => by
      cases e
      have := hc ad rfl j u hu
      exact (hal.cell (World.block_lt_of_cell? w _ this)).trans this) (oneB s) (by omega) hal.size
    have HHR : Hid (∀ ty, (Builtin.append_ #[41, 41] ty #[.slice (some ⟨w.heap.size, 0, none⟩) 0 0, .slice (some ad) k c]).run Try.prog (w.alloc (.cells #[] 5)) = .ok v5 w5) := hr5
    rw [Nat.zero_add, List.nil_append] at ho5
    have HO5 : Hid (w5.ownsRow w.heap.size 5 1 v5 s.length (s.map B)) := show World.ownsRow _ _ _ _ _ _ _ from by rw [hk]; exact ho5
    have HB5 : Hid (Below w.heap.size w w5) := show Below w.heap.size w w5 from hal.trans (hg5.below (fun q hq => (ownsRow_lt hown hq).1) hal.size)
    clear hc hnil hal hown hr5 ho5 hg5
    go_enter Try.func32, Try.ntmps32
    go_wp2_with (at_builtin; refine wpList_runs rfl _ _ 41 rfl rfl rfl HHR.out ?_)
    go_ret
    exact ⟨_, rfl, HO5.out, HB5.out⟩
theorem len_chan (ty : TypeId) (w : World) {cb cap s r : Nat} {bx : List Dv} (h : w.heap[cb]? = some (.chan cap (bx.map Dv.v).toArray false s r false)) : (Builtin.len_ #[74] ty #[.chan (some cb)]).run Try.prog w = .ok (.int .i64 (bx.length : Int)) w := by
  have hg : (getObj cb).run Try.prog w = .ok (.chan cap (bx.map Dv.v).toArray false s r false) w := by simp [getObj, Sem.run, h]
  simp [Builtin.len_, run_underlying Try.underlying74, hg, go_sem, goInt]
section
variable {L lb cb mb : Nat} {uv : Value} {x : LV}
set_option maxRecDepth 100000 in
theorem next_any (w : World) (h : LM L lb cb mb uv x w) : Calls Try.prog 11 #[.pointer (some ⟨lb, 0, none⟩)] w fun e w' => e = .returned (.int .i64 x.next) ∧ w' = w := by
  have c : w.cell? ⟨lb, 9, none⟩ = some (.int .i64 x.next) := h.b.cell 9
  clear h
  go_enter Try.func11, Try.ntmps11
  go_wp2_with fail
  go_ret
  exact ⟨rfl, rfl⟩
set_option maxRecDepth 100000 in
set_option maxHeartbeats 800000 in
theorem gone_any (w : World) (h : LM L lb cb mb uv x w) (hb : 0 ≤ x.acked ∧ x.acked ≤ 1099511627776) (hu : x.under.length ≤ 1000) : Calls Try.prog 40 #[.pointer (some ⟨lb, 0, none⟩)] w fun e w' => e = .returned (.int .i64 (x.acked + (x.under.length : Int))) ∧ ∃ q, w' = w.drewN q := by
  have c5 : w.cell? ⟨lb, 5, none⟩ = some (.int .i64 x.acked) := h.b.cell 5
  obtain ⟨uo, uc, huv, _⟩ := own_slice h.u
  have c6 : w.cell? ⟨lb, 6, none⟩ = some uv := h.b.cell 6
  obtain ⟨hb1, hb2⟩ := hb
  subst huv
  clear h
  go_enter Try.func40, Try.ntmps40
  go_wp2_with fail
  go_quiet (fail)
  go_wp2_with fail
  go_ret
  exact ⟨rfl, _, rfl⟩
set_option maxRecDepth 100000 in
set_option maxHeartbeats 800000 in
theorem room_any (w : World) (h : LM L lb cb mb uv x w) (hw : x.win ≤ 16) (hx : x.box.length ≤ 1000) (hu : x.under.length ≤ 1000) : Calls Try.prog 12 #[.pointer (some ⟨lb, 0, none⟩)] w fun e w' => e = .returned (.int .i64 ((x.win : Int) - (x.box.length : Int) - (x.under.length : Int))) ∧ ∃ q, w' = w.drewN q := by
  have c2 : w.cell? ⟨lb, 2, none⟩ = some (.int .i64 (x.win : Int)) := h.b.cell 2
  have c4 : w.cell? ⟨lb, 4, none⟩ = some (.chan (some cb)) := h.b.cell 4
  obtain ⟨uo, uc, huv, _⟩ := own_slice h.u
  have c6 : w.cell? ⟨lb, 6, none⟩ = some uv := h.b.cell 6
  obtain ⟨s, r, hc⟩ := h.c
  subst huv
  have hln : ∀ ty q, (Builtin.len_ #[74] ty #[.chan (some cb)]).run Try.prog (w.drewN q) = .ok (.int .i64 (x.box.length : Int)) (w.drewN q) := fun ty q => len_chan ty _ (show (w.drewN q).heap[cb]? = some (.chan x.win (x.box.map Dv.v).toArray false s r false) from hc)
  clear h hc
  go_enter Try.func12, Try.ntmps12
  go_wp2_with fail
  go_quiet (fail)
  go_wp2_with fail
  go_ret
  exact ⟨rfl, _, rfl⟩
end
end Go.Proofs.Ytcjgicfmfjomgaa
