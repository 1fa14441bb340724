import Derived.Test.YtnphkmdanicemaaGreatDoorVBase
import Derived.Laws.OwnMore
namespace Go.Proofs.YtnphkmdanicemaaGreatDoor
open Go.RowKit Go.PlainAid
theorem below_drewN {L : Nat} {w w' : World} (h : Below L w w') (q : Nat) : Below L w (w'.drewN q) := ⟨h.os, h.tape, h.output, h.size, h.block⟩
theorem idx_run (T e : TypeId) (size : Nat) (hu : Tryz.prog.underlying T = some (.slice e)) (hs : (Tryz.prog.info? e).map (·.size) = some size) (w : World) (g o n cap j : Nat) (hj : j < n) :
    (Instr.indexAt T (.slice (some ⟨g, o, none⟩) n cap) (.int .i64 (j : Int))).run Tryz.prog w = .ok (.pointer (some ⟨g, o + j * size, none⟩)) w := by
  have hi : ∃ i, Tryz.prog.info? e = some i ∧ i.size = size := by
    cases h : Tryz.prog.info? e with
    | none => rw [h] at hs; cases hs
    | some i => rw [h] at hs; exact ⟨i, rfl, by simpa using hs⟩
  obtain ⟨i, hi, hz⟩ := hi
  have hlt : (0 : Int) ≤ (j : Int) ∧ (j : Int) < (n : Int) := by omega
  simp only [Instr.indexAt, asIntOf, Sem.run_bind, Sem.run_pure, Result.andThen_ok, run_underlying hu, sizeOf, typeInfo, if_pos hlt]
  simp [hi, hz, addr_add]
end Go.Proofs.YtnphkmdanicemaaGreatDoor
namespace Go.Proofs.YtnphkmdanicemaaGreatDoor
open Go.RowKit Go.PlainAid
set_option linter.unusedVariables false
set_option linter.unusedSimpArgs false
/-- An append, whatever the elements and wherever they come from. -/
theorem app_rows (t e : TypeId) (z : Value) (size bytes : Nat) (ht : Tryz.prog.underlying t = some (.slice e)) (hinfo : (Tryz.prog.info? e).map (fun i => (i.zero, i.size, i.bytes)) = some (some z, size, bytes)) (hzz : z.cells.size = size) (hs0 : 1 ≤ size) (hb0 : 0 < bytes)
    {w : World} {base k : Nat} {v : Value} {xs : List Value} (hown : w.ownsRow base e size v k xs) {ao : Option Addr} {m cap : Nat} {ys : List Value} (hys : ys.length = m * size) (hnil : ao = none → m = 0 ∧ cap = 0) (hnews : ∀ ad, ao = some ad → ∀ j u, ys[j]? = some u → w.cell? (ad.add j) = some u) (hone : ∀ u ∈ ys, u.oneCell' = true) (hby2 : (k + m) * bytes ≤ 140737488355328) (hbase : base ≤ w.heap.size) :
    ∃ v' w', (∀ ty, (Builtin.append_ #[t, t] ty #[v, .slice ao m cap]).run Tryz.prog w = .ok v' w') ∧ w'.ownsRow base e size v' (k + m) (xs ++ ys) ∧ Grew w w' v v' := by
  cases ao with
  | none =>
    obtain ⟨rfl, rfl⟩ := hnil rfl
    obtain ⟨i0, hi, _⟩ := info_parts hinfo
    obtain rfl := List.eq_nil_of_length_eq_zero (by simpa using hys)
    exact ⟨v, w, fun ty => run_append_owned_none w base t ty e i0 size ht hi v k _ hown, by simpa using hown, Grew.refl _ _⟩
  | some ad =>
    obtain ⟨v', w', a, b, c, _⟩ := app_any t e z size bytes ht hinfo hzz hs0 hb0 hown ad m cap ys hys (hnews ad rfl) hone hby2 hbase t
    exact ⟨v', w', fun ty => a, b, c⟩
section
variable {α : Type} (f : α → List Value) (n : Nat) (hf : ∀ a, (f a).length = n)
include hf
theorem flat_len : ∀ l : List α, (l.flatMap f).length = l.length * n
  | [] => by simp
  | a :: t => by rw [List.flatMap_cons, List.length_append, hf, flat_len t, List.length_cons, Nat.succ_mul]; omega
theorem flat_at : ∀ (l : List α) (i j : Nat) (a : α), l[i]? = some a → j < n → (l.flatMap f)[i * n + j]? = (f a)[j]?
  | [], i, j, a, h, _ => by simp at h
  | b :: t, 0, j, a, h, hj => by
    simp at h
    subst h
    rw [List.flatMap_cons, Nat.zero_mul, Nat.zero_add, List.getElem?_append_left (by rw [hf]; exact hj)]
  | b :: t, i + 1, j, a, h, hj => by
    rw [List.flatMap_cons, List.getElem?_append_right (by rw [hf, Nat.succ_mul]; omega), hf, show (i + 1) * n + j - n = i * n + j from by rw [Nat.succ_mul]; omega]
    exact flat_at t i j a (by simpa using h) hj
theorem flat_take : ∀ (l : List α) (i : Nat), (l.flatMap f).take (i * n) = (l.take i).flatMap f
  | [], i => by simp
  | a :: t, 0 => by simp
  | a :: t, i + 1 => by
    rw [List.flatMap_cons, List.take_succ_cons, List.flatMap_cons, Nat.succ_mul, Nat.add_comm, show n = (f a).length from (hf a).symm, List.take_length_add_append, hf, flat_take t i]
theorem flat_drop : ∀ (l : List α) (i : Nat), (l.flatMap f).drop (i * n) = (l.drop i).flatMap f
  | [], i => by simp
  | a :: t, 0 => by simp
  | a :: t, i + 1 => by
    rw [List.flatMap_cons, List.drop_succ_cons, Nat.succ_mul, Nat.add_comm, show n = (f a).length from (hf a).symm, List.drop_length_add_append, hf, flat_drop t i]
end
theorem slice_head (T e : TypeId) (hu : Tryz.prog.underlying T = some (.slice e)) {size : Nat} (hs : (Tryz.prog.info? e).map (·.size) = some size) (ao : Option Addr) (m cap i : Nat) (hi : i ≤ cap) (w : World) :
    (Instr.sliceAt T (.slice ao m cap) none (some (.int .i64 (i : Int))) none).run Tryz.prog w = .ok (.slice ao i cap) w := by
  have hie : ∃ i0, Tryz.prog.info? e = some i0 ∧ i0.size = size := by
    cases h : Tryz.prog.info? e with
    | none => rw [h] at hs; cases hs
    | some i => rw [h] at hs; exact ⟨i, rfl, by simpa using hs⟩
  obtain ⟨i0, hi0, hz⟩ := hie
  have he : Tryz.prog.elem T = e := by simp [Program.elem, hu]
  have hu2 : Tryz.prog.underlying T = some (.slice (Tryz.prog.elem T)) := by rw [he]; exact hu
  rw [run_sliceAt_slice _ _ _ _ _ _ hu2, run_slice_h _ _ _ _ _ hu2 .i64 (i : Int) (by omega) (by omega), he]
  simp only [sizeOf, typeInfo, hi0, sliced]
  simp [hi0, Result.andThen]
  cases ao with
  | none => simp
  | some a => simp [Addr.add]
theorem slice_tail (T e : TypeId) (hu : Tryz.prog.underlying T = some (.slice e)) {size : Nat} (hs : (Tryz.prog.info? e).map (·.size) = some size) (g o m cap i : Nat) (hi : i ≤ m) (hmc : m ≤ cap) :
    ∃ ad : Addr, (∀ w, (Instr.sliceAt T (.slice (some ⟨g, o, none⟩) m cap) (some (.int .i64 (i : Int))) none none).run Tryz.prog w = .ok (.slice (some ad) (m - i) (cap - i)) w) ∧ (i < m → ad = ⟨g, o + i * size, none⟩) := by
  have hie : ∃ i0, Tryz.prog.info? e = some i0 ∧ i0.size = size := by
    cases h : Tryz.prog.info? e with
    | none => rw [h] at hs; cases hs
    | some i => rw [h] at hs; exact ⟨i, rfl, by simpa using hs⟩
  obtain ⟨i0, hi0, hz⟩ := hie
  have he : Tryz.prog.elem T = e := by simp [Program.elem, hu]
  have hu2 : Tryz.prog.underlying T = some (.slice (Tryz.prog.elem T)) := by rw [he]; exact hu
  refine ⟨if cap = i then ⟨g, o, none⟩ else ⟨g, o + i * size, none⟩, fun w => ?_, fun h => by rw [if_neg (by omega)]⟩
  rw [run_sliceAt_slice _ _ _ _ _ _ hu2, run_slice_l _ _ _ _ _ hu2 .i64 (i : Int) (by omega) (by omega), he]
  simp only [sizeOf, typeInfo, hi0, sliced]
  simp [hi0, Result.andThen, hz, addr_add]
  split <;> rfl
end Go.Proofs.YtnphkmdanicemaaGreatDoor
