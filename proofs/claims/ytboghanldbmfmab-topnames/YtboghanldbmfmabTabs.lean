import Derived.Test.YtboghanldbmfmabRows
import Derived.WalkKit
import Derived.WalkSpells
import Derived.WalkLawsBesides
namespace Go.Proofs.Ytboghanldbmfmab
open Go.RowKit

def pairs (l : List Int) : List Value := l.flatMap fun x => [.int .i64 x, .int .i64 x]

theorem pairs_len (l : List Int) : (pairs l).length = l.length * 2 := by
  induction l with
  | nil => rfl
  | cons x l ih => simp [pairs, List.flatMap_cons] at ih ⊢; omega

theorem pairs_get0 (l : List Int) (k : Nat) (h : k < l.length) : (pairs l)[k * 2]? = some (.int .i64 (l.getD k 0)) := by
  induction l generalizing k with
  | nil => simp at h
  | cons x l ih =>
    match k with
    | 0 => rfl
    | k + 1 =>
      have := ih k (by simpa using h)
      simp only [pairs, List.flatMap_cons] at this ⊢
      rw [show (k + 1) * 2 = k * 2 + 2 from by omega]
      simpa using this

theorem pairs_get1 (l : List Int) (k : Nat) (h : k < l.length) : (pairs l)[k * 2 + 1]? = some (.int .i64 (l.getD k 0)) := by
  induction l generalizing k with
  | nil => simp at h
  | cons x l ih =>
    match k with
    | 0 => rfl
    | k + 1 =>
      have := ih k (by simpa using h)
      simp only [pairs, List.flatMap_cons] at this ⊢
      rw [show (k + 1) * 2 + 1 = k * 2 + 1 + 2 from by omega]
      simpa using this

def tab1 : List Int := [0,1,2,3,10,11,12,20,21,30,31,40,41,50,60,61,62,70,71,100,101,102,110,111,130,131,132,133,140,150,170,171,172,180,200,201,210,211,220,2,16,1099511627776,16,16,1000]
def tab2 : List Int := [32,16,4,16,64,1024,20000,64,1099511627776,1099511627776,1099511627776,4096,1048576,12,512,65536,64,8192,1,2,3,4,5,6,7,8,9,10,11,12,1,2,3,4,5,6,7,8,9,10,1,2,3,4,5]
def tab3 : List Int := [6,7,8,9,10,11,12,13,14,15]

set_option maxHeartbeats 1000000 in
theorem names3_any (w : World) :
    Calls Try.prog 7 #[] w fun e w' => e = .returned (.slice (some ⟨w.heap.size, 0, none⟩) 10 10) ∧ w' = w.alloc (.cells (pairs tab3).toArray 29) := by
  go_enter Try.func7, Try.ntmps7
  go_wp2
  go_ret
  exact ⟨rfl, rfl⟩
end Go.Proofs.Ytboghanldbmfmab
