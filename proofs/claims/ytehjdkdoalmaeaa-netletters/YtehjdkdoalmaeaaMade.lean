import Derived.Test.YtehjdkdoalmaeaaPair5
namespace Go.Proofs.Ytehjdkdoalmaeaa
open Go.RowKit Go.PlainAid
set_option linter.unusedVariables false
set_option linter.unusedSimpArgs false
set_option maxRecDepth 100000 in
set_option maxHeartbeats 800000 in
theorem new_no (room : Int) (w : World) (h : ¬ (1 ≤ room ∧ room ≤ 1024)) :
    Calls Try.prog 8 #[.int .i64 room] w fun r w' => r = .returned (.tuple #[.pointer none, .int .i64 1]) ∧ w' = w := by
  by_cases h1 : room < 1
  · go_enter Try.func8, Try.ntmps8
    go_wp2
    go_ret2
    exact ⟨rfl, rfl⟩
  · have h2 : 1024 < room := by omega
    go_enter Try.func8, Try.ntmps8
    go_wp2
    go_ret2
    exact ⟨rfl, rfl⟩
set_option maxRecDepth 100000 in
set_option maxHeartbeats 800000 in
theorem rnew_no (room : Int) (w : World) (h : ¬ (1 ≤ room ∧ room ≤ 1024)) :
    Calls Try.prog 31 #[.int .i64 room] w fun r w' => r = .returned (.tuple #[.pointer none, .int .i64 1]) ∧ w' = w := by
  by_cases h1 : room < 1
  · go_enter Try.func31, Try.ntmps31
    go_wp2
    go_ret2
    exact ⟨rfl, rfl⟩
  · have h2 : 1024 < room := by omega
    go_enter Try.func31, Try.ntmps31
    go_wp2
    go_ret2
    exact ⟨rfl, rfl⟩
def PS.new : PS := ⟨.slice none 0 0, .slice none 0 0, .slice none 0 0, .slice none 0 0, .slice none 0 0, .slice none 0 0, .slice none 0 0, [], [], [], [], [], [], [], [], 0, 0, 0⟩
def newW (room : Int) (w : World) : World := ((w.alloc (.cells #[.int .i64 room, .slice none 0 0] 54)).alloc (.cells #[.int .i64 room, .slice none 0 0] 73)).alloc (.cells #[.pointer (some ⟨w.heap.size, 0, none⟩), .pointer (some ⟨w.heap.size + 1, 0, none⟩), .slice none 0 0, .int .i64 0, .slice none 0 0, .slice none 0 0, .slice none 0 0, .slice none 0 0, .int .i64 0, .int .i64 0] 65)
theorem new_inv (L room : Nat) (w : World) : PInv L (w.heap.size + 2) w.heap.size (w.heap.size + 1) room PS.new (newW room w) := by
  have h0 : (w.alloc (.cells #[.int .i64 (room : Nat), .slice none 0 0] 54)).heap.size = w.heap.size + 1 := World.size_alloc _ _
  have h1 : ((w.alloc (.cells #[.int .i64 (room : Nat), .slice none 0 0] 54)).alloc (.cells #[.int .i64 (room : Nat), .slice none 0 0] 73)).heap.size = w.heap.size + 2 := by simp
  refine ⟨?_, ⟨?_, World.ownsRow_nil _ _ _ _, fun l hl => by cases hl⟩, ⟨?_, World.ownsRow_nil _ _ _ _, fun l hl => by cases hl⟩, tail_nil _ _ _, tail_nil _ _ _, (fun x hx => by cases hx), World.ownsRow_nil _ _ _ _, tail_nil _ _ _, tail_nil _ _ _, (fun x hx => by cases hx), (fun x hx => by cases hx), by rw [show PS.new.foot = [] from rfl]; exact List.nodup_nil⟩
  · rw [← h1]
    exact heap_alloc_new _ _
  · exact (Below.heap_alloc _ _ _ (by omega)).trans ((Below.heap_alloc _ _ _ (by omega)).trans (heap_alloc_new w _))
  · rw [← h0]
    exact (Below.heap_alloc _ _ _ (by omega)).trans (heap_alloc_new _ _)
theorem new_ag (room : Nat) : PAg room PS.new := ⟨rfl, Nat.zero_le _, fun x hx => by cases hx⟩
theorem new_full : PFull PS.new := ⟨rfl, (fun i x m h => by simp [PS.new] at h), Nat.zero_le _, (fun x hx => by cases hx), rfl⟩
set_option maxRecDepth 100000 in
set_option maxHeartbeats 1600000 in
theorem made_no (room : Int) (w : World) (h : ¬ (1 ≤ room ∧ room ≤ 1024)) :
    Calls Try.prog 22 #[.int .i64 room] w fun r w' => r = .returned (.tuple #[.pointer none, .bool true]) ∧ w' = w := by
  have h1 := new_no room w h
  have h2 := rnew_no room w h
  go_enter Try.func22, Try.ntmps22
  go_wp2_with (first | (go_at_call 8; refine h1.mono ?_; rintro e1 w1 ⟨rfl, rfl⟩) | (go_at_call 31; refine h2.mono ?_; rintro e2 w2 ⟨rfl, rfl⟩) | (go_at_call 9; refine (num_any _ _).mono ?_; rintro e9 w9 ⟨rfl, rfl⟩) | fail)
  go_ret2
  exact ⟨rfl, rfl⟩
set_option maxRecDepth 100000 in
set_option maxHeartbeats 1600000 in
theorem made_yes (room : Nat) (w : World) (h1 : 1 ≤ room) (h2 : room ≤ 1024) :
    Calls Try.prog 22 #[.int .i64 (room : Nat)] w fun r w' => r = .returned (.tuple #[.pointer (some ⟨w.heap.size + 2, 0, none⟩), .bool true]) ∧ w' = newW room w := by
  have hn := new_any room w h1 h2
  have hr := rnew_any room (w.alloc (.cells #[.int .i64 (room : Nat), .slice none 0 0] 54)) h1 h2
  rw [World.size_alloc] at hr
  unfold newW
  go_enter Try.func22, Try.ntmps22
  go_wp2_with (first | (go_at_call 8; refine hn.mono ?_; rintro e1 w1 ⟨rfl, rfl⟩) | (go_at_call 31; refine hr.mono ?_; rintro e2 w2 ⟨rfl, rfl⟩) | (go_at_call 9; refine (num_any _ _).mono ?_; rintro e9 w9 ⟨rfl, rfl⟩) | fail)
  go_ret2
  exact ⟨rfl, rfl⟩
end Go.Proofs.Ytehjdkdoalmaeaa
