import Derived.Test.YtboghanldbmfmabDoorShelf2
import Derived.BigQuiet
import Derived.Deep.QuietTactic
namespace Go.Proofs.YtboghanldbmfmabDoor
open Go.RowKit

theorem own_form {w : World} {L e n : Nat} {v : Value} {xs : List Value} (h : w.ownsRow L e 1 v n xs) :
    ∃ ao cap, v = .slice ao n cap ∧ n ≤ cap ∧ (0 < n → ∃ g, ao = some ⟨g, 0, none⟩ ∧ ∀ j u, xs[j]? = some u → w.cell? ⟨g, j, none⟩ = some u) := by
  rcases h.2 with ⟨rfl, rfl⟩ | ⟨g, cap, cur, rfl, hb, hg, hc, _⟩
  · exact ⟨none, 0, rfl, Nat.le_refl _, fun h => by omega⟩
  · refine ⟨_, cap, rfl, hc, fun _ => ⟨g, rfl, fun j u hu => ?_⟩⟩
    have := h.cells (g := g) rfl j u hu
    rwa [show (Addr.add ⟨g, 0, none⟩ j) = ⟨g, j, none⟩ from by unfold Addr.add; split <;> simp_all] at this

theorem conv_all (w : World) (ao : Option Addr) (n cap : Nat) (xs : List UInt8) (hn : xs.length = n) (hs : Src w ao xs) (q : Nat) : (convert 22 9 (.slice ao n cap)).run Tryd.prog (w.drewN q) = .ok (StrV xs) (w.drewN q) :=
  conv_run (w.drewN q) ao n cap xs hn hs

set_option maxHeartbeats 800000 in
theorem stands_any (L s : Nat) (w : World) (m : Nat) (lv hv : Value) (ls : List (Value × List UInt8)) (lent : Option (Nat × List UInt8)) (fv wv : Value) (fs : List (Value × List UInt8))
    (hS : Shelf L s w m lv hv ls lent fv wv fs) (hsm : ls.length ≤ 1000) :
    Calls Tryd.prog 19 #[.pointer (some ⟨s, 0, none⟩)] w fun e w' => e = .returned (.bool true) ∧ ∃ q, w' = w.drewN q := by
  have hblk := hS.blk
  have c0 : w.cell? ⟨s, 0, none⟩ = some lv := by rw [cell_of_row w s 0 _ 28 (0, 0) hblk]; rfl
  have c1 : w.cell? ⟨s, 1, none⟩ = some hv := by rw [cell_of_row w s 1 _ 28 (0, 0) hblk]; rfl
  obtain ⟨lo, lc, rfl, hlc, hlg⟩ := tail_form hS.lists
  obtain ⟨ho, hc, rfl, hhc, hhg⟩ := tail_form hS.holds
  have hlsE := hS.lsE
  clear hblk hS
  generalize hN : ls.length = N at *
  go_enter Tryd.func19, Tryd.ntmps19
  go_wp2
  go_loopw [3] (fun i wr => ∃ k : Nat, k ≤ N ∧ i = .int .i64 k ∧ ∃ q, wr = w.drewN q) (fun i _ => N - (intOf i).toNat)
  case atStart => exact ⟨0, Nat.zero_le _, rfl, 0, rfl⟩
  case round =>
    obtain ⟨k, hk, rfl, q, rfl⟩ := hrel
    by_cases hlt : k < N
    · obtain ⟨gl, ol, rfl, hcl⟩ := hlg (by omega)
      obtain ⟨gh, oh, rfl, hch⟩ := hhg (by omega)
      obtain ⟨e, he⟩ : ∃ e, ls[k]? = some e := ⟨ls[k]'(by omega), List.getElem?_eq_getElem _⟩
      obtain ⟨ao, n, cap, hev, hn, _, _, hs, _⟩ := hlsE e (List.mem_of_getElem? he)
      have d0 := hcl k e.1 (by rw [List.getElem?_map, he]; rfl)
      have d1 := hch k (StrV e.2) (by rw [List.getElem?_map, he]; rfl)
      rw [hev] at d0
      have kc := conv_all w ao n cap e.2 hn hs
      simp only [StrV] at d1 kc
      clear hcl hch hlsE hs hev he hlg hhg
      go_wp2
      go_quiet (fail)
      go_wp2
      go_roundw
      case rel => exact ⟨k + 1, by omega, by go_num, _, rfl⟩
      case measure => simp [intOf]; omega
    · clear hlsE hlg hhg
      go_wp2
      go_ret
      exact ⟨rfl, _, rfl⟩
end Go.Proofs.YtboghanldbmfmabDoor
