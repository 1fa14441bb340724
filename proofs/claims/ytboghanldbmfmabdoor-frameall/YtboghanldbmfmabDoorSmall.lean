import Derived.Test.YtboghanldbmfmabDoorOpenAny
import Derived.Laws.AppendOwnNone
import Derived.Laws.IdiomStrings
import Derived.Laws.BytesString
namespace Go.Proofs.YtboghanldbmfmabDoor
open Go.RowKit

theorem row_src {w : World} {g : Nat} {bs : List UInt8} (h : Row w g bs) : Src w (some ⟨g, 0, none⟩) bs := fun _ =>
  ⟨_, rfl, fun j u hu => by
    rw [show (Addr.add ⟨g, 0, none⟩ j) = ⟨g, j, none⟩ from by unfold Addr.add; split <;> simp_all]
    exact h.cell j u hu⟩

theorem conv_run (w : World) (ao : Option Addr) (n cap : Nat) (xs : List UInt8) (hn : xs.length = n) (hs : Src w ao xs) : (convert 22 9 (.slice ao n cap)).run Tryd.prog w = .ok (.string ⟨xs.toArray⟩) w := by
  subst hn
  cases ao with
  | none =>
    have h0 : xs = [] := by
      cases xs with
      | nil => rfl
      | cons x xs => obtain ⟨ad, h, _⟩ := hs (by simp); cases h
    subst h0
    rw [run_convert_bytes_string w 22 9 5 none _ cap Tryd.underlying22 Tryd.underlying5 Tryd.underlying9]
    simp [Conv.bytesToString]
    rfl
  | some ad =>
    refine run_convert_bytes_back w 22 9 5 ad cap xs Tryd.underlying22 Tryd.underlying5 Tryd.underlying9 (fun j hj => ?_)
    obtain ⟨ad', h, hc⟩ := hs (by omega)
    cases h
    exact hc j _ (List.getElem?_eq_getElem hj)

set_option maxHeartbeats 400000 in
theorem same_any (ao bo : Option Addr) (n m c d : Nat) (xs ys : List UInt8) (w : World) (hn : xs.length = n) (hm : ys.length = m) (hx : Src w ao xs) (hy : Src w bo ys) :
    Calls Tryd.prog 15 #[.slice ao n c, .slice bo m d] w fun e w' => e = .returned (.bool (xs == ys)) ∧ w' = w := by
  have k1 := conv_run w ao n c xs hn hx
  have k2 := conv_run w bo m d ys hm hy
  go_enter Tryd.func15, Tryd.ntmps15
  go_wp2
  go_ret
  exact ⟨rfl, rfl⟩

theorem num_any (e : Int) (w : World) : Calls Tryd.prog 14 #[.int .i64 e] w fun x w' => x = .returned (.int .i64 e) ∧ w' = w := by
  go_enter Tryd.func14, Tryd.ntmps14
  go_wp2
  go_ret
  exact ⟨rfl, rfl⟩

theorem tmod_cases (i : Int) (n : Nat) (h0 : 0 < n) : (i.tmod n < 0 → i % (n : Int) = i.tmod n + n) ∧ (0 ≤ i.tmod n → i % (n : Int) = i.tmod n) := by
  have h := Int.tmod_eq_emod (a := i) (b := (n : Int))
  have h1 := Int.emod_nonneg i (b := (n : Int)) (by omega)
  have h2 := Int.emod_lt_of_pos i (b := (n : Int)) (by omega)
  split at h <;> constructor <;> intro h3 <;> omega

theorem ret_i64 {a b : Int} (h : a = b) : Ending.returned (.int .i64 a) = .returned (.int .i64 b) := by rw [h]

theorem slot_any (i : Int) (n : Nat) (w : World) (h0 : 0 < n) (h1 : n ≤ 100000) :
    Calls Tryd.prog 11 #[.int .i64 i, .int .i64 (n : Nat)] w fun x w' => x = .returned (.int .i64 (i % (n : Int))) ∧ w' = w := by
  have hb := tmod_cases i n h0
  have h2 := Int.emod_nonneg i (b := (n : Int)) (by omega)
  have h3 := Int.emod_lt_of_pos i (b := (n : Int)) (by omega)
  obtain ⟨ha, hc⟩ := hb
  by_cases hs : i.tmod n < 0
  · have he := ha hs
    have hlo : -100000 ≤ i.tmod n := by omega
    have HE : Hid _ := he
    clear ha hc he h2 h3
    go_enter Tryd.func11, Tryd.ntmps11
    go_wp2
    go_ret
    exact ⟨ret_i64 HE.out.symm, rfl⟩
  · have he := hc (by omega)
    have HE : Hid _ := he
    clear ha hc he h2 h3
    go_enter Tryd.func11, Tryd.ntmps11
    go_wp2
    go_ret
    exact ⟨ret_i64 HE.out.symm, rfl⟩

/-- A slice value: its address, its capacity. -/
theorem own_src {w : World} {base n : Nat} {v : Value} {ps : List UInt8} (h : w.ownsRow base 5 1 v n (ps.map B)) :
    ∃ ao cap, v = .slice ao n cap ∧ n ≤ cap ∧ (ao = none → n = 0 ∧ cap = 0) ∧ Src w ao ps ∧ ps.length = n := by
  have hl := h.1
  simp only [List.length_map, Nat.mul_one] at hl
  rcases h.2 with ⟨rfl, rfl⟩ | ⟨g, cap, cur, rfl, hb, hg, hc, hm, hcs, htake⟩
  · exact ⟨none, 0, rfl, Nat.le_refl _, fun _ => ⟨rfl, rfl⟩, fun h => by omega, hl⟩
  · refine ⟨some ⟨g, 0, none⟩, cap, rfl, hc, (fun h => by cases h), (fun _ => ⟨_, rfl, fun j u hu => ?_⟩), hl⟩
    refine h.cells (g := g) rfl j (B u) ?_
    rw [List.getElem?_map, hu]; rfl

theorem news_of {w : World} {ad : Addr} {ps : List UInt8} (hs : Src w (some ad) ps) : ∀ j v, (ps.map B)[j]? = some v → w.cell? (ad.add j) = some v := by
  intro j v hv
  rw [List.getElem?_map] at hv
  cases hu : ps[j]? with
  | none => rw [hu] at hv; cases hv
  | some u =>
    rw [hu] at hv
    cases hv
    have hj := (List.getElem?_eq_some_iff.1 hu).1
    obtain ⟨ad', h, hc⟩ := hs (by omega)
    cases h
    exact hc j u hu

/-- 'append' upon a slice of the call's own (or nil), from whatever bytes. -/
theorem wpList_append_bytes {w : World} {ops : Array Oper} {rest : List Oper} {o : Oper} {a : Act} {Q : Exit → Act → World → Prop} (hgd : o.guard = none) (s x : Operand)
    (ho : o.op = .call { callee := .builtin .append, args := #[s, x], argTypes := #[22, 22] })
    (base k : Nat) (v : Value) (xs : List UInt8) (hs : a.eval s = v) (hown : w.ownsRow base 5 1 v k (xs.map B))
    (ao : Option Addr) (n cap : Nat) (ps : List UInt8) (hx : a.eval x = .slice ao n cap) (hn : ps.length = n) (hnil : ao = none → n = 0 ∧ cap = 0) (hsrc : Src w ao ps)
    (hlen : k + n ≤ 140737488355328) (hbase : base ≤ w.heap.size)
    (h : ∀ v' w', w'.ownsRow base 5 1 v' (k + n) ((xs ++ ps).map B) → w.grownBy w' v.ownBlock → wpList Tryd.prog ops Q rest (a.put o.dst v') w') : wpList Tryd.prog ops Q (o :: rest) a w := by
  obtain ⟨i0, hi, hz0, hz1, hz2⟩ := info_parts Tryd.info5
  cases ao with
  | none =>
    obtain ⟨rfl, rfl⟩ := hnil rfl
    obtain rfl : ps = [] := List.eq_nil_of_length_eq_zero hn
    refine wpList_append_own_none hgd s x 22 ho base 5 i0 1 Tryd.underlying22 hi v k (xs.map B) hs hown hx ?_
    refine h v w (by simpa using hown) ⟨rfl, rfl, rfl, Nat.le_refl _, fun _ _ _ => rfl⟩
  | some ad =>
    refine wpList_append_own _ hgd s x 22 ho base 5 i0 _ 1 1 Tryd.underlying22 hi hz0 hz1 hz2 rfl (by decide) v k (xs.map B) hs hown ad n cap (ps.map B) hx (by simp [hn]) (news_of hsrc) (oneCells ps) (by unfold maxLen; omega) (by omega) hbase ?_
    intro v' w' h1 h2 _
    rw [← List.map_append] at h1
    exact h v' w' h1 h2

end Go.Proofs.YtboghanldbmfmabDoor
