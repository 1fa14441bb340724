import Derived.Test.YtneiomimjgfbpaaSmall
import Derived.Test.YtneiomimjgfbpaaRefR5
import Derived.Test.YtneiomimjgfbpaaOne0
namespace Go.Proofs.Ytneiomimjgfbpaa
open Go.RowKit Go.PlainAid
set_option linter.unusedSimpArgs false
set_option linter.unusedVariables false
set_option maxRecDepth 100000 in
set_option maxHeartbeats 800000 in
/-- What is lent: a row of its own, with two marks behind. -/
theorem lent_row (ao : Option Addr) (n cap : Nat) (xs : List UInt8) (w : World) (hx : xs.length = n) (hnil : ao = none → n = 0 ∧ cap = 0) (hf : From w ao xs) (hn : n ≤ 140737488351232) :
    Calls Try.prog 11 #[.slice ao n cap] w (fun e w' => ∃ g c, e = .returned (.slice (some ⟨g, 0, none⟩) (n + 2) c) ∧ n + 2 ≤ c ∧ w.heap.size ≤ g ∧ g < w'.heap.size ∧ w'.ownsRow w.heap.size 5 1 (.slice (some ⟨g, 0, none⟩) (n + 2) c) (n + 2) ((xs ++ [165, 90]).map B) ∧ Below w.heap.size w w') := by
  go_enter Try.func11, Try.ntmps11
  go_wp2_with (first
    | (at_builtin; go_must (refine wpList_append_bytes rfl _ _ rfl w.heap.size 0 _ [] rfl (World.ownsRow_nil _ _ _ _) ao n cap xs rfl hx hnil hf (by omega) (Nat.le_refl _) ?_))
    | fail)
  intro v1 w1 hown1 hg1
  have hb1 : Below w.heap.size w w1 := (Below.refl _ _).grown hg1 (Nat.le_refl _) (fun k h => by cases h)
  have hown1 : w1.ownsRow w.heap.size 5 1 v1 n (xs.map B) := by simpa using hown1
  obtain ⟨ao1, cap1, rfl, hc1, _, hs1, hl1⟩ := own_from hown1
  have hm : From (w1.alloc (.cells #[.int .u8 165, .int .u8 90] 5 (0, 0))) (some ⟨w1.heap.size, 0, none⟩) [165, 90] := from_mark w1 [165, 90] _ _ rfl
  have hsz := hb1.size
  clear hg1
  go_wp2_with (first
    | (at_builtin; go_must (refine wpList_append_bytes rfl _ _ rfl w.heap.size n _ xs rfl (hown1.alloc _) _ 2 2 [165, 90] rfl rfl (by intro h; cases h) hm (by omega) (by simp; omega) ?_))
    | fail)
  intro v2 w2 hown2 hg2
  have hown2 : w2.ownsRow w.heap.size 5 1 v2 (n + 2) ((xs ++ [165, 90]).map B) := by simpa using hown2
  have hb2 : Below w.heap.size w w2 := (hb1.alloc hsz _).grown hg2 (by simp; omega) (fun k e => (hown1.lt k e).1)
  obtain ⟨ao2, cap2, rfl, hc2, hn2, hs2, _⟩ := own_from hown2
  cases ao2 with
  | none => have := (hn2 rfl).1; omega
  | some ad =>
    obtain ⟨g, hg⟩ : ∃ g, ad = ⟨g, 0, none⟩ := by
      rcases hown2.2 with ⟨h1, h2⟩ | ⟨g, cap, cur, h1, _⟩
      · omega
      · simp only [Value.slice.injEq, Option.some.injEq] at h1
        exact ⟨g, h1.1⟩
    subst hg
    have hlt := hown2.lt g rfl
    have HO : Hid _ := hown2
    clear hown2 hs2
    go_wp2
    go_ret
    exact ⟨g, cap2, rfl, hc2, hlt.1, hlt.2, HO.out, hb2⟩
set_option maxRecDepth 100000 in
set_option maxHeartbeats 3200000 in
/-- A row that was lent and is as it was: it is written over. -/
theorem back_any (g n c base : Nat) (bo : Option Addr) (cb : Nat) (xs : List UInt8) (w : World) (hx : xs.length = n) (hn : n ≤ 140737488351232) (hown : w.ownsRow base 5 1 (.slice (some ⟨g, 0, none⟩) (n + 2) c) (n + 2) ((xs ++ [165, 90]).map B)) (hfy : From w bo xs) :
    Calls Try.prog 58 #[.slice (some ⟨g, 0, none⟩) (n + 2) c, .slice bo n cb] w fun e w' => e = .returned (.bool true) ∧ RW g w w' := by
  obtain ⟨ao2, cap2, e2, hc2, _, hs2, hl2⟩ := own_from hown
  cases e2
  obtain ⟨b3, o3, e3, h4⟩ := hs2 (by simp)
  cases e3
  have hc5 : w.cell? ⟨g, n, none⟩ = some (.int .u8 165) := by
    have := h4 n 165 (by rw [List.getElem?_append_right (by omega), hx]; simp)
    simpa [B] using this
  have hc6 : w.cell? ⟨g, n + 1, none⟩ = some (.int .u8 90) := by
    have := h4 (n + 1) 90 (by rw [List.getElem?_append_right (by omega), hx]; simp)
    simpa [B] using this
  have hfx : From w (some ⟨g, 0, none⟩) xs := fun h0 => ⟨g, 0, rfl, fun j u hu => h4 j u (by rw [List.getElem?_append_left (List.getElem?_eq_some_iff.1 hu).1]; exact hu)⟩
  obtain ⟨cur, hB, hcs⟩ : ∃ cur, Blk w g cur 5 ∧ cur.size = c := by
    rcases hown.2 with ⟨h1, _⟩ | ⟨g', c', cur, h1, _, hblk, _, _, hcs, htk⟩
    · cases h1
    · cases h1
      exact ⟨cur, hblk, by omega⟩
  have hal := alike_any (some ⟨g, 0, none⟩) bo n n c cb xs xs w hx hx hfx hfy
  simp only [decide_true] at hal
  clear hown hs2 hl2 h4 hfx hfy
  have HB : Hid _ := hB
  have HX : Hid _ := hx
  clear hB hx
  go_enter Try.func58, Try.ntmps58
  go_wp2_with (first | (go_at_call 15; refine hal.mono ?_; rintro e15 w15 ⟨rfl, rfl⟩) | fail)
  clear hc5 hc6 hal
  go_loopw [7] (fun iv wr => ∃ (k : Nat) (cur' : Array Value), k ≤ n + 2 ∧ iv = .int .i64 (k : Nat) ∧ Blk wr g cur' 5 ∧ cur'.size = c ∧ RW g w15 wr) (fun iv _ => n + 2 - (intOf iv).toNat)
  case atStart => exact ⟨0, cur, by omega, rfl, HB.out, hcs, RW.refl _ _⟩
  case round =>
    obtain ⟨k, cur', hk, rfl, hB', hcs', hW⟩ := hrel
    clear hcs
    by_cases hlt : k < n + 2
    · have hc : wr.cell? ⟨g, k, none⟩ = some (cur'[k]'(by omega)) := (hB'.cell k).trans (Array.getElem?_eq_getElem (by omega))
      have hz := hB'.frozen k
      have hnew : Blk (wr.setCell ⟨g, k, none⟩ (.int .u8 85)) g (cur'.setIfInBounds k (.int .u8 85)) 5 := Blk.set hB' k _
      have hWn : RW g w15 (wr.setCell ⟨g, k, none⟩ (.int .u8 85)) := hW.set k _
      have HN : Hid _ := hnew
      have HWN : Hid _ := hWn
      generalize cur'[k]'(by omega) = u at hc
      have HC : Hid _ := hcs'
      clear hnew hWn hB' hW hcs'
      go_wp2
      go_roundw
      case rel => exact ⟨k + 1, _, by omega, by go_num, HN.out, by rw [Array.size_setIfInBounds]; exact HC.out, HWN.out⟩
      case measure => simp [intOf]; omega
    · clear hB' hcs'
      go_wp2
      go_ret
      exact ⟨rfl, hW⟩
end Go.Proofs.Ytneiomimjgfbpaa
namespace Go.Proofs.Ytneiomimjgfbpaa
open Go.RowKit Go.PlainAid
set_option linter.unusedSimpArgs false
set_option linter.unusedVariables false
theorem own_setB {w : World} {L n g cap k : Nat} {zs : List UInt8} (h : w.ownsRow L 5 1 (.slice (some ⟨g, 0, none⟩) n cap) n (zs.map B)) (z : UInt8) :
    (w.setCell ⟨g, k, none⟩ (B z)).ownsRow L 5 1 (.slice (some ⟨g, 0, none⟩) n cap) n ((zs.set k z).map B) ∧ w.frozen? ⟨g, k, none⟩ = false := by
  rcases h.2 with ⟨h1, _⟩ | ⟨g2, c, cur, h1, h2, h3, h4, h5, h6, h7⟩
  · cases h1
  · cases h1
    have hB : Blk w g cur 5 := h3
    refine ⟨⟨by simpa using h.1, Or.inr ⟨g, cap, cur.setIfInBounds k (B z), rfl, h2, hB.set k _, h4, h5, by simpa using h6, ?_⟩⟩, hB.frozen k⟩
    rw [Array.toList_setIfInBounds, List.take_set, h7]
    simp only [List.map_set]
theorem own_cellB {w : World} {L n g cap k : Nat} {zs : List UInt8} {u : UInt8} (h : w.ownsRow L 5 1 (.slice (some ⟨g, 0, none⟩) n cap) n (zs.map B)) (hk : zs[k]? = some u) : w.cell? ⟨g, k, none⟩ = some (B u) := by
  obtain ⟨ao2, cap2, e2, _, _, hs2, _⟩ := own_from h
  cases e2
  obtain ⟨b3, o3, e3, h4⟩ := hs2 (by have := (List.getElem?_eq_some_iff.1 hk).1; omega)
  cases e3
  have := h4 k u hk
  rwa [Nat.zero_add] at this
set_option maxRecDepth 100000 in
set_option maxHeartbeats 3200000 in
/-- A row that was lent and is as it was: it is written over, and stays one's own. -/
theorem back_row (g n c base : Nat) (bo : Option Addr) (cb : Nat) (xs : List UInt8) (w : World) (hx : xs.length = n) (hn : n ≤ 140737488351232) (hown : w.ownsRow base 5 1 (.slice (some ⟨g, 0, none⟩) (n + 2) c) (n + 2) ((xs ++ [165, 90]).map B)) (hfy : From w bo xs) :
    Calls Try.prog 58 #[.slice (some ⟨g, 0, none⟩) (n + 2) c, .slice bo n cb] w fun e w' => e = .returned (.bool true) ∧ RW g w w' ∧ ∃ zs : List UInt8, zs.length = n + 2 ∧ w'.ownsRow base 5 1 (.slice (some ⟨g, 0, none⟩) (n + 2) c) (n + 2) (zs.map B) := by
  have hnc : n + 2 ≤ c := by
    obtain ⟨ao2, cap2, e2, hc2, _⟩ := own_from hown
    cases e2
    exact hc2
  have hc5 : w.cell? ⟨g, n, none⟩ = some (.int .u8 165) := by
    have := own_cellB hown (k := n) (u := 165) (by rw [List.getElem?_append_right (by omega), hx]; simp)
    simpa [B] using this
  have hc6 : w.cell? ⟨g, n + 1, none⟩ = some (.int .u8 90) := by
    have := own_cellB hown (k := n + 1) (u := 90) (by rw [List.getElem?_append_right (by omega), hx]; simp)
    simpa [B] using this
  have hfx : From w (some ⟨g, 0, none⟩) xs := fun h0 => ⟨g, 0, rfl, fun j u hu => by rw [Nat.zero_add]; exact own_cellB hown (by rw [List.getElem?_append_left (List.getElem?_eq_some_iff.1 hu).1]; exact hu)⟩
  have hal := alike_any (some ⟨g, 0, none⟩) bo n n c cb xs xs w hx hx hfx hfy
  simp only [decide_true] at hal
  have HO : Hid (World.ownsRow w base 5 1 (.slice (some ⟨g, 0, none⟩) (n + 2) c) (n + 2) ((xs ++ [165, 90]).map B)) := hown
  have HX : Hid _ := hx
  clear hown hfx hfy hx
  go_enter Try.func58, Try.ntmps58
  go_wp2_with (first | (go_at_call 15; refine hal.mono ?_; rintro e15 w15 ⟨rfl, rfl⟩) | fail)
  clear hc5 hc6 hal
  go_loopw [7] (fun iv wr => ∃ (k : Nat) (zs : List UInt8), k ≤ n + 2 ∧ iv = .int .i64 (k : Nat) ∧ zs.length = n + 2 ∧ World.ownsRow wr base 5 1 (.slice (some ⟨g, 0, none⟩) (n + 2) c) (n + 2) (zs.map B) ∧ RW g w15 wr) (fun iv _ => n + 2 - (intOf iv).toNat)
  case atStart => exact ⟨0, xs ++ [165, 90], by omega, rfl, by simp [HX.out], HO.out, RW.refl _ _⟩
  case round =>
    obtain ⟨k, zs, hk, rfl, hzl, hO', hW⟩ := hrel
    by_cases hlt : k < n + 2
    · obtain ⟨u, hu⟩ : ∃ u, zs[k]? = some u := ⟨_, List.getElem?_eq_getElem (by omega)⟩
      have hc : wr.cell? ⟨g, k, none⟩ = some (B u) := own_cellB hO' hu
      obtain ⟨hnew, hz⟩ := own_setB (k := k) hO' 85
      have hWn : RW g w15 (wr.setCell ⟨g, k, none⟩ (.int .u8 85)) := hW.set k _
      have HN : Hid (World.ownsRow (wr.setCell ⟨g, k, none⟩ (.int .u8 85)) base 5 1 (.slice (some ⟨g, 0, none⟩) (n + 2) c) (n + 2) ((zs.set k 85).map B)) := hnew
      have HWN : Hid _ := hWn
      have HC : Hid _ := hzl
      generalize B u = bu at hc
      clear hnew hWn hO' hW hzl hu
      go_wp2
      go_roundw
      case rel => exact ⟨k + 1, _, by omega, by go_num, by rw [List.length_set]; exact HC.out, HN.out, HWN.out⟩
      case measure => simp [intOf]; omega
    · have HO2 : Hid (World.ownsRow wr base 5 1 (.slice (some ⟨g, 0, none⟩) (n + 2) c) (n + 2) (zs.map B)) := hO'
      have HC : Hid _ := hzl
      clear hO' hzl
      go_wp2
      go_ret
      exact ⟨rfl, hW, zs, HC.out, HO2.out⟩
end Go.Proofs.Ytneiomimjgfbpaa
namespace Go.Proofs.Ytneiomimjgfbpaa
open Go.RowKit Go.PlainAid
set_option linter.unusedSimpArgs false
set_option linter.unusedVariables false
theorem BelowRW {base g : Nat} {w W W' : World} (h : Below base w W) (hw : RW g W W') (hg : base ≤ g) : Below base w W' := h.trans ⟨hw.os, hw.tape, hw.output, by rw [hw.size]; exact Nat.le_refl _, fun k hk => hw.block k (by omega)⟩
theorem FromRW {w w' : World} {g : Nat} {ao : Option Addr} {xs : List UInt8} (h : From w ao xs) (hw : RW g w w') (hne : ∀ b o, ao = some ⟨b, o, none⟩ → b ≠ g) : From w' ao xs := h.keep fun b o e => hw.block b (hne b o e)
def posR {α : Type} (r : Res α) : Int := match r with
  | .error k => (k : Nat)
  | .ok _ => 0
def codeR {α : Type} (r : Res α) : Int := match r with
  | .error _ => 20
  | .ok _ => 0
/-- What an encoder answered, as one tuple. -/
theorem encV {r : Option (List UInt8)} {w : World} {e : Ending} {w' : World} (h : EncPost r w e w') : ∃ ao' c', e = .returned (.tuple #[.slice ao' (r.getD []).length c', .int .i64 (if r.isSome then 0 else 21)]) ∧ From w' ao' (r.getD []) ∧ (∀ b o, ao' = some ⟨b, o, none⟩ → w.heap.size ≤ b ∧ b < w'.heap.size) ∧ Below w.heap.size w w' := by
  obtain ⟨hb, h⟩ := h
  cases r with
  | none => exact ⟨none, 0, h, fun h => absurd h (by simp), fun b o e => (by cases e), hb⟩
  | some bs =>
    obtain ⟨v, rfl, hv⟩ := h
    obtain ⟨ao, c, rfl, _, _, hf, _⟩ := own_from hv
    exact ⟨ao, c, rfl, hf, fun b o e => by subst e; exact hv.lt b rfl, hb⟩
def reqOf (r : Res ((Int × Int) × Int × List UInt8 × Int × Int)) : (Int × Int) × Int × List UInt8 × Int × Int := match r with
  | .error _ => ((0, 0), 0, [], 0, 0)
  | .ok (x, _) => x
theorem reqV {r : Res ((Int × Int) × Int × List UInt8 × Int × Int)} {w : World} {e : Ending} {w' : World} (h : DecQPost r w e w') : e = .returned (.tuple #[.agg (callCells (reqOf r).1), .agg (opCells (reqOf r).2), .int .i64 (posR r), .int .i64 (codeR r)]) ∧ Below w.heap.size w w' := by
  obtain ⟨hb, h⟩ := h
  cases r with
  | error k => exact ⟨h, hb⟩
  | ok v => obtain ⟨x, k⟩ := v; exact ⟨h, hb⟩
def repOf (r : Res ((Int × Int) × Int × Int)) : (Int × Int) × Int × Int := match r with
  | .error _ => ((0, 0), 0, 0)
  | .ok (x, _) => x
theorem repV {r : Res ((Int × Int) × Int × Int)} {w : World} {e : Ending} {w' : World} (h : DecRPost r w e w') : e = .returned (.tuple #[.agg (repCells (repOf r)), .int .i64 (posR r), .int .i64 (codeR r)]) ∧ Below w.heap.size w w' := by
  obtain ⟨hb, h⟩ := h
  cases r with
  | error k => exact ⟨h, hb⟩
  | ok v => obtain ⟨x, k⟩ := v; exact ⟨h, hb⟩
/-- A new box, written full. -/
theorem box_set (w : World) (Z D : Array Value) (ty : TypeId) : Blk ((w.alloc (.cells Z ty)).setRow w.heap.size D) w.heap.size D ty ∧ Below w.heap.size w ((w.alloc (.cells Z ty)).setRow w.heap.size D) ∧ ((w.alloc (.cells Z ty)).setRow w.heap.size D).heap.size = w.heap.size + 1 :=
  ⟨setRow_blk (heap_alloc_new w _), (show Below w.heap.size w (w.alloc _) from by go_grown).trans ⟨rfl, rfl, rfl, by simp [World.setRow], fun k hk => setRow_other _ _ _ _ (by omega)⟩, by simp [World.setRow]⟩
/-- Two new boxes, written full. -/
theorem box_set2 (w : World) (Z D Z2 D2 : Array Value) (ty ty2 : TypeId) :
    Blk ((((w.alloc (.cells Z ty)).alloc (.cells Z2 ty2)).setRow w.heap.size D).setRow (w.heap.size + 1) D2) w.heap.size D ty ∧ Blk ((((w.alloc (.cells Z ty)).alloc (.cells Z2 ty2)).setRow w.heap.size D).setRow (w.heap.size + 1) D2) (w.heap.size + 1) D2 ty2 ∧
    Below w.heap.size w ((((w.alloc (.cells Z ty)).alloc (.cells Z2 ty2)).setRow w.heap.size D).setRow (w.heap.size + 1) D2) ∧ ((((w.alloc (.cells Z ty)).alloc (.cells Z2 ty2)).setRow w.heap.size D).setRow (w.heap.size + 1) D2).heap.size = w.heap.size + 2 ∧
    Blk ((w.alloc (.cells Z ty)).alloc (.cells Z2 ty2)) w.heap.size Z ty ∧ Blk (((w.alloc (.cells Z ty)).alloc (.cells Z2 ty2)).setRow w.heap.size D) (w.heap.size + 1) Z2 ty2 := by
  have h0 : Blk ((w.alloc (.cells Z ty)).alloc (.cells Z2 ty2)) w.heap.size Z ty := (Below.heap_alloc _ _ _ (by simp)).trans (heap_alloc_new w _)
  have h1 : Blk ((w.alloc (.cells Z ty)).alloc (.cells Z2 ty2)) (w.heap.size + 1) Z2 ty2 := by
    have := heap_alloc_new (w.alloc (.cells Z ty)) (.cells Z2 ty2)
    rw [World.size_alloc] at this
    exact this
  have h2 : Blk (((w.alloc (.cells Z ty)).alloc (.cells Z2 ty2)).setRow w.heap.size D) w.heap.size D ty := setRow_blk h0
  have h3 : Blk (((w.alloc (.cells Z ty)).alloc (.cells Z2 ty2)).setRow w.heap.size D) (w.heap.size + 1) Z2 ty2 := (setRow_other _ _ _ _ (by omega)).trans h1
  refine ⟨(setRow_other _ _ _ _ (by omega)).trans h2, setRow_blk h3, ?_, by simp [World.setRow], h0, h3⟩
  refine (show Below w.heap.size w ((w.alloc (.cells Z ty)).alloc (.cells Z2 ty2)) from by go_grown).trans ⟨rfl, rfl, rfl, by simp [World.setRow], fun k hk => ?_⟩
  rw [setRow_other _ _ _ _ (by omega), setRow_other _ _ _ _ (by omega)]
theorem eq29_self (D : Array Value) (x : Int × Int) (h : D = callCells x) : ∀ W : World, Sem.run Try.prog (binOp .eql 29 (.agg D) (.agg D)) W = .ok (.bool true) W := by
  intro W
  rw [h, show callCells x = #[.int .i64 x.1, .int .i64 x.2] from rfl, eql29]
  simp
theorem eq31_self (D : Array Value) (x : Int × List UInt8 × Int × Int) (h : D = opCells x) : ∀ W : World, Sem.run Try.prog (binOp .eql 31 (.agg D) (.agg D)) W = .ok (.bool true) W := by
  intro W
  rw [h, show opCells x = #[.int .i64 x.1, .string ⟨x.2.1.toArray⟩, .int .i64 x.2.2.1, .int .i64 x.2.2.2] from rfl, eql31]
  simp
theorem eq55_self (D : Array Value) (x : (Int × Int) × Int × Int) (h : D = repCells x) : ∀ W : World, Sem.run Try.prog (binOp .eql 55 (.agg D) (.agg D)) W = .ok (.bool true) W := by
  intro W
  rw [h, show repCells x = #[.int .i64 x.1.1, .int .i64 x.1.2, .int .i64 x.2.1, .int .i64 x.2.2] from rfl, eql55]
  simp
end Go.Proofs.Ytneiomimjgfbpaa
