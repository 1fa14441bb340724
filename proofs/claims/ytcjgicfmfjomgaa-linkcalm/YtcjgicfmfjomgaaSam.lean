import Derived.Test.YtcjgicfmfjomgaaMad2
import Derived.Lib.SlBytesConst
namespace Go.Proofs.Ytcjgicfmfjomgaa
open Go.RowKit Go.PlainAid Go.MapKept
set_option linter.unusedVariables false
set_option linter.unusedSimpArgs false
theorem conv_run {w : World} {v : Value} {s : List UInt8} (h : By w v s) : (convert 41 9 v).run Try.prog w = .ok (.string ⟨s.toArray⟩) w := by
  obtain ⟨ao, k, c, rfl, hk, h0, hc⟩ := h
  subst hk
  cases ao with
  | none =>
    have h1 : s = [] := List.length_eq_zero_iff.mp (h0 rfl).1
    subst h1
    rw [run_convert_bytes_string w 41 9 5 none _ c Try.underlying41 Try.underlying5 Try.underlying9]
    simp [Conv.bytesToString]
    rfl
  | some ad =>
    refine run_convert_bytes_back w 41 9 5 ad c s Try.underlying41 Try.underlying5 Try.underlying9 (fun j hj => ?_)
    have := hc ad rfl j (B s[j]) (by rw [List.getElem?_map, List.getElem?_eq_getElem hj]; rfl)
    exact this
theorem one_conv (w : World) (g : Nat) (hg : g = w.heap.size) (x : Int) : (convert 41 41 (.slice (some ⟨g, 0, none⟩) 1 1)).run Try.prog (w.alloc (.cells #[.int .u8 x] 5)) = .ok (.slice (some ⟨g, 0, none⟩) 1 1) (w.alloc (.cells #[.int .u8 x] 5 (1, 2))) := by
  subst hg
  exact Lib.run_convert_bytes_const w 41 5 #[.int .u8 x] 1 1 Try.underlying41 Try.underlying5
/-- One constant byte. -/
theorem one_by {w w' : World} (x : UInt8) (hb : Below (w.heap.size + 1) (w.alloc (.cells #[B x] 5 (1, 2))) w') : By w' (.slice (some ⟨w.heap.size, 0, none⟩) 1 1) [x] := by
  refine ⟨_, _, _, rfl, rfl, (fun h => by cases h), ?_⟩
  rintro ad he j u hu
  cases he
  cases j with
  | succ j => simp at hu
  | zero =>
    simp only [List.map_cons, List.map_nil, List.getElem?_cons_zero, Option.some.injEq] at hu
    subst hu
    have h1 : (w.alloc (.cells #[B x] 5 (1, 2))).heap[w.heap.size]? = some (.cells #[B x] 5 (1, 2)) := heap_alloc_new w _
    have h2 := (hb.block w.heap.size (by omega)).trans h1
    simp [World.cell?, Addr.add, h2]
set_option maxHeartbeats 400000 in
theorem same_any {v u : Value} {xs ys : List UInt8} (w : World) (hx : By w v xs) (hy : By w u ys) :
    Calls Try.prog 20 #[v, u] w fun e w' => e = .returned (.bool (xs == ys)) ∧ w' = w := by
  have k1 := conv_run hx
  have k2 := conv_run hy
  clear hx hy
  go_enter Try.func20, Try.ntmps20
  go_wp2
  go_ret
  exact ⟨rfl, rfl⟩
end Go.Proofs.Ytcjgicfmfjomgaa
