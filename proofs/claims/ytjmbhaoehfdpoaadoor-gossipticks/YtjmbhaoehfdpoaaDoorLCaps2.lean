import Derived.Test.YtjmbhaoehfdpoaaDoorLCaps
namespace Go.Proofs.YtjmbhaoehfdpoaaDoor.Led
open Go.RowKit Go.PlainAid
set_option linter.unusedVariables false
set_option linter.unusedSimpArgs false
def RC (d u : Int) : Array Value := #[.int .i64 d, .int .i64 u]
set_option maxRecDepth 100000 in
set_option maxHeartbeats 1600000 in
theorem rights_any {hb : Nat} {s : LS} (w : World) (h : Blk w hb s.cs 63) :
    Calls Tryd.prog 21 #[.pointer (some ⟨hb, 0, none⟩)] w fun r w' => r = .returned (.agg #[.int .i64 s.d, .int .i64 s.u]) ∧ Below w.heap.size w w' := by
  have hgr : Below w.heap.size w (w.alloc (.cells #[.int .i64 0, .int .i64 0] 36)) := by go_grown
  have hB1 : Blk (w.alloc (.cells #[.int .i64 0, .int .i64 0] 36)) hb s.cs 63 := h.below hgr h.lt
  have c0 : (w.alloc (.cells #[.int .i64 0, .int .i64 0] 36)).cell? ⟨hb, 0, none⟩ = some (.int .i64 s.d) := hB1.cell 0
  have c1 : (w.alloc (.cells #[.int .i64 0, .int .i64 0] 36)).cell? ⟨hb, 1, none⟩ = some (.int .i64 s.u) := hB1.cell 1
  generalize s.d = d at *
  generalize s.u = u at *
  clear hB1 h
  have HG : Hid _ := hgr
  clear hgr
  go_enter Tryd.func21, Tryd.ntmps21
  go_wp2
  have hB : (w.alloc (.cells #[.int .i64 d, .int .i64 u] 36)).heap[w.heap.size]? = some (.cells #[.int .i64 d, .int .i64 u] 36 (0, 0)) := heap_alloc_new w _
  exact bodyPost_ret (results_cell_row Tryd.results21 _ _ (w.heap.size) 36 _ (0, 0) _ rfl hB Tryd.underlying36 rfl (by kernel_rfl)) rfl ⟨rfl, by go_grown⟩
end Go.Proofs.YtjmbhaoehfdpoaaDoor.Led

