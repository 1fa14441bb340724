import Derived.Test.YtcnokgphioigoaaJC
import Derived.BigQuiet
namespace Go.Proofs.Ytcnokgphioigoaa
open Go.RowKit Go.PlainAid
set_option linter.unusedVariables false
set_option linter.unusedSimpArgs false
/-- How many sectors a record takes. -/
def kS (n : Nat) : Nat := max 1 ((n + 495) / 496)
theorem kS_pos (n : Nat) : 1 ≤ kS n := by unfold kS; omega
theorem kS_le (n : Nat) (h : n ≤ 8192) : kS n ≤ 17 := by unfold kS; omega
set_option maxRecDepth 100000 in
theorem kS_any (n : Nat) (w : World) (hn : n ≤ 1000000000000) : Calls Try.prog 39 #[.int .i64 (n : Int)] w fun e w' => e = .returned (.int .i64 (kS n : Int)) ∧ w' = w := by
  have hq : Int.tdiv ((n : Int) + 496 - 1) 496 = (((n + 495) / 496 : Nat) : Int) := by
    rw [Int.tdiv_eq_ediv_of_nonneg (by omega)]; omega
  go_enter Try.func39, Try.ntmps39
  go_wp2_with fail
  all_goals (go_ret; exact ⟨ret_i64 (by unfold kS; omega), rfl⟩)
/-- A journal: what lies in its box. -/
structure JV where
  p : Nat
  rv : Value
  recs : List (Value × List UInt8)
  next : Nat
  fin : Nat
def JV.cs (y : JV) : Array Value := #[.pointer (some ⟨y.p, 0, none⟩), y.rv, .int .i64 (y.next : Int), .int .i64 (y.fin : Int), .bool false]
def JV.es (L jb : Nat) (y : JV) : List (Ent L) := boxE L jb y.cs 79 :: tailE L 38 y.rv y.recs.length (y.recs.map Prod.fst) :: y.recs.map (datE L)
section
variable {L jb : Nat} {y : JV} {R : List (Ent L)} {w : World}
theorem jbox (h : Held (y.es L jb ++ R) w) : Blk w jb y.cs 79 := (h.all (boxE L jb y.cs 79) (by simp [JV.es])).1
theorem jlow (h : Held (y.es L jb ++ R) w) : L ≤ w.heap.size := Nat.le_trans (h.all (boxE L jb y.cs 79) (by simp [JV.es])).2 (Nat.le_of_lt (jbox h).lt)
theorem jrow (h : Held (y.es L jb ++ R) w) : Tail w L 38 y.rv y.recs.length (y.recs.map Prod.fst) := h.all (tailE L 38 y.rv y.recs.length (y.recs.map Prod.fst)) (by simp [JV.es])
theorem jdat (h : Held (y.es L jb ++ R) w) {d : Value × List UInt8} (hd : d ∈ y.recs) : w.ownsRow L 5 1 d.1 d.2.length (d.2.map B) := h.all (datE L d) (by
  simp only [JV.es, List.cons_append, List.mem_cons, List.mem_append]
  exact Or.inr (Or.inr (Or.inl (List.mem_map_of_mem hd))))
set_option maxRecDepth 100000
theorem len_any (w : World) (h : Held (y.es L jb ++ R) w) (hl : y.recs.length ≤ 1000000) : Calls Try.prog 30 #[.pointer (some ⟨jb, 0, none⟩)] w fun e w' => e = .returned (.int .i64 (y.recs.length : Int)) ∧ w' = w := by
  obtain ⟨ro, rc, hr⟩ := tail_val (jrow h)
  have c1 : w.cell? ⟨jb, 1, none⟩ = some (.slice ro y.recs.length rc) := ((jbox h).cell 1).trans (congrArg some hr)
  clear h hr
  go_enter Try.func30, Try.ntmps30
  go_wp2_with fail
  go_ret
  exact ⟨rfl, rfl⟩
theorem number_any (w : World) (h : Held (y.es L jb ++ R) w) (hl : y.recs.length ≤ 1000000) : Calls Try.prog 52 #[.pointer (some ⟨jb, 0, none⟩)] w fun e w' => e = .returned (.int .i64 ((y.recs.length + 1 : Nat) : Int)) ∧ w' = w := by
  obtain ⟨ro, rc, hr⟩ := tail_val (jrow h)
  have c1 : w.cell? ⟨jb, 1, none⟩ = some (.slice ro y.recs.length rc) := ((jbox h).cell 1).trans (congrArg some hr)
  clear h hr
  go_enter Try.func52, Try.ntmps52
  go_wp2_with fail
  go_ret
  exact ⟨by first | rfl | go_num | (congr 2; done) | simp, rfl⟩
theorem dead_any (w : World) (h : Held (y.es L jb ++ R) w) : Calls Try.prog 42 #[.pointer (some ⟨jb, 0, none⟩)] w fun e w' => e = .returned (.bool false) ∧ w' = w := by
  have c4 : w.cell? ⟨jb, 4, none⟩ = some (.bool false) := (jbox h).cell 4
  clear h
  go_enter Try.func42, Try.ntmps42
  go_wp2_with fail
  go_ret
  exact ⟨rfl, rfl⟩
theorem room_any (w : World) (h : Held (y.es L jb ++ R) w) (hn : y.next ≤ y.fin) (hf : y.fin ≤ 1000000) : Calls Try.prog 18 #[.pointer (some ⟨jb, 0, none⟩)] w fun e w' => e = .returned (.int .i64 ((y.fin - y.next : Nat) : Int)) ∧ ∃ q, w' = w.drewN q := by
  have c2 : w.cell? ⟨jb, 2, none⟩ = some (.int .i64 (y.next : Int)) := (jbox h).cell 2
  have c3 : w.cell? ⟨jb, 3, none⟩ = some (.int .i64 (y.fin : Int)) := (jbox h).cell 3
  have e : ((y.fin - y.next : Nat) : Int) = (y.fin : Int) - (y.next : Int) := by omega
  rw [e]
  clear h e
  go_enter Try.func18, Try.ntmps18
  go_wp2_with fail
  go_quiet (fail)
  go_wp2_with fail
  go_ret
  exact ⟨rfl, _, rfl⟩
end
end Go.Proofs.Ytcnokgphioigoaa
