import Derived.Test.YtmnihombiabkgaaFn
namespace Go.Proofs.Ytmnihombiabkgaa
open Go.RowKit Go.PlainAid Go.MapKept
set_option linter.unusedVariables false
set_option linter.unusedSimpArgs false
theorem cellT {w : World} {L n cap g i : Nat} {l : List Tm} (h : w.ownsRow L 50 4 (.slice (some ⟨g, 0, none⟩) n cap) n (flatT l)) {t : Tm} (ht : l[i]? = some t) :
    w.cell? ⟨g, i * 4, none⟩ = some (.int .i64 t.due) ∧ w.cell? ⟨g, i * 4 + 1, none⟩ = some (.int .i64 t.num) ∧ w.cell? ⟨g, i * 4 + 2, none⟩ = some (.int .i64 t.kind) ∧ w.cell? ⟨g, i * 4 + 3, none⟩ = some (.int .i64 t.id) := by
  have key : ∀ q u, q < 4 → (Tm.row t)[q]? = some u → w.cell? ⟨g, i * 4 + q, none⟩ = some u := fun q u hq hu => by
    have := h.cells (g := g) rfl (i * 4 + q) u (by unfold flatT; rw [flat_at Tm.row 4 (fun _ => rfl) l i q t ht hq]; exact hu)
    rwa [addr_add, Nat.zero_add] at this
  exact ⟨key 0 _ (by omega) rfl, key 1 _ (by omega) rfl, key 2 _ (by omega) rfl, key 3 _ (by omega) rfl⟩
theorem own_some {w : World} {L n : Nat} {v : Value} {l : List Tm} (h : w.ownsRow L 50 4 v n (flatT l)) (h0 : 0 < n) : ∃ g cap, v = .slice (some ⟨g, 0, none⟩) n cap ∧ n ≤ cap ∧ cap ≤ maxLen ∧ g < w.heap.size := by
  obtain ⟨ao, cap, e, hc, hm, hf⟩ := own_read h
  obtain ⟨g, rfl, _, hl, _⟩ := hf h0
  exact ⟨g, cap, e, hc, hm, hl⟩
theorem pw_lt {l : List Tm} (h : l.Pairwise fun a b => a.num < b.num) {i j : Nat} {x y : Tm} (hx : l[i]? = some x) (hy : l[j]? = some y) : x.num < y.num ↔ i < j := by
  obtain ⟨h1, rfl⟩ := List.getElem?_eq_some_iff.1 hx
  obtain ⟨h2, rfl⟩ := List.getElem?_eq_some_iff.1 hy
  have p := List.pairwise_iff_getElem.1 h
  constructor
  · intro hlt
    by_cases e : i < j
    · exact e
    · by_cases e2 : i = j
      · subst e2; omega
      · have := p j i h2 h1 (by omega); omega
  · exact fun hlt => p i j h1 h2 hlt
set_option maxRecDepth 100000 in
set_option maxHeartbeats 3200000 in
theorem bs_any {base : Nat} {v : Value} {l : List Tm} (w : World) (hr : w.ownsRow base 50 4 v l.length (flatT l)) (hlen : l.length ≤ 1000000) (hup : l.Pairwise fun a b => a.num < b.num) {i : Nat} {t : Tm} (hi : l[i]? = some t) :
    Calls Try.prog 21 #[v, .int .i64 t.num, .func (.func 22) #[] #[]] w fun r w' => r = .returned (.tuple #[.int .i64 i, .bool true]) ∧ Below w.heap.size w w' := by
  have hil : i < l.length := (List.getElem?_eq_some_iff.1 hi).1
  obtain ⟨g, cap, rfl, hnc, hcm, hg⟩ := own_some hr (by omega)
  unfold maxLen at hcm
  obtain ⟨n, hn⟩ : ∃ n, n = l.length := ⟨_, rfl⟩
  obtain ⟨tn, htn⟩ : ∃ tn, tn = t.num := ⟨_, rfl⟩
  rw [← htn]
  have HTN : Hid (tn = t.num) := htn
  have HR : Hid (∀ (wr : World) (j : Nat) (x : Tm), Below w.heap.size w wr → l[j]? = some x → wr.cell? ⟨g, j * 4, none⟩ = some (.int .i64 x.due) ∧ wr.cell? ⟨g, j * 4 + 1, none⟩ = some (.int .i64 x.num) ∧ wr.cell? ⟨g, j * 4 + 2, none⟩ = some (.int .i64 x.kind) ∧ wr.cell? ⟨g, j * 4 + 3, none⟩ = some (.int .i64 x.id)) := fun wr j x hb hx => cellT (ownsRow_same hr (fun g' e => hb.block g' (ownsRow_lt hr e).2)) hx
  rw [← hn] at hlen hil hnc ⊢
  have HN : Hid (n = l.length) := hn
  have HUP : Hid (l.Pairwise fun a b => a.num < b.num) := hup
  have HI : Hid (l[i]? = some t) := hi
  clear hr hup hi hn htn
  go_enter Try.func21, Try.ntmps21
  go_wp2_with fail
  go_loopw [9, 10, 11] (fun s9 s10 _ wr => ∃ a b : Nat, a ≤ i ∧ i ≤ b ∧ b ≤ n ∧ s9 = .int .i64 a ∧ s10 = .int .i64 b ∧ Below w.heap.size w wr) (fun s9 s10 _ _ => (intOf s10).toNat - (intOf s9).toNat)
  case atStart => exact ⟨0, n, by omega, by omega, by omega, rfl, rfl, Below.refl _ _⟩
  case round =>
    obtain ⟨a, b, ha, hb, hbn, rfl, rfl, hbe⟩ := hrel
    have HBE : Hid (Below w.heap.size w wr) := hbe
    clear hbe
    by_cases hab : a < b
    · obtain ⟨h, hh⟩ : ∃ h : Nat, h = (a + b) / 2 := ⟨_, rfl⟩
      have hh1 : a ≤ h := by omega
      have hh2 : h < b := by omega
      obtain ⟨x, hx⟩ : ∃ x, l[h]? = some x := ⟨l[h]'(by have := HN.out; omega), List.getElem?_eq_getElem _⟩
      obtain ⟨x0, x1, x2, x3⟩ := HR.out wr h x HBE.out hx
      have HX : Hid (l[h]? = some x) := hx
      clear hx
      go_upto_region 5 with fail
      rw [show ((a : Int) + (b : Int)) / 2 = (h : Int) from by omega]
      clear hh
      go_wp2_with fail
      refine Calls.mono (byNumber_any x tn wr) ?_
      rintro e w1 ⟨rfl, hb1⟩
      have HB1 : Hid (Below w.heap.size w w1) := show Below w.heap.size w w1 from HBE.out.trans (hb1.mono HBE.out.size)
      clear hb1 x0 x1 x2 x3 HBE
      by_cases hlt : x.num < tn
      · have hhi : h < i := (pw_lt HUP.out HX.out HI.out).1 (by rw [← HTN.out]; exact hlt)
        have hc : cmpI x.num tn = -1 := by simp [cmpI, hlt]
        rw [hc]
        clear hc hlt HX
        go_wp2_with fail
        go_roundw
        case rel => exact ⟨h + 1, b, by omega, by omega, by omega, by go_num, rfl, HB1.out⟩
        case measure => simp [intOf]; omega
      · have hhi : i ≤ h := by
          by_cases e : i ≤ h
          · exact e
          · exact absurd ((pw_lt HUP.out HX.out HI.out).2 (by omega)) (by rw [← HTN.out]; exact hlt)
        obtain ⟨c, hc⟩ : ∃ c, c = cmpI x.num tn := ⟨_, rfl⟩
        have hc0 : ¬ c < 0 := by rw [hc]; unfold cmpI; rw [if_neg hlt]; split <;> omega
        rw [← hc]
        clear hc hlt HX
        go_wp2_with fail
        go_roundw
        case rel => exact ⟨a, h, by omega, by omega, by omega, rfl, rfl, HB1.out⟩
        case measure => simp [intOf]; omega
    · obtain rfl : a = i := by omega
      obtain ⟨y0, y1, y2, y3⟩ := HR.out wr a t HBE.out HI.out
      rw [← HTN.out] at y1
      go_wp2_with fail
      refine Calls.mono (byNumber_any ⟨t.due, tn, t.kind, t.id⟩ tn wr) ?_
      rintro e w1 ⟨rfl, hb1⟩
      have HB1 : Hid (Below w.heap.size w w1) := show Below w.heap.size w w1 from HBE.out.trans (hb1.mono HBE.out.size)
      rw [show cmpI tn tn = 0 from by simp [cmpI]]
      clear hb1 y0 y1 y2 y3 HBE
      go_wp2_with fail
      go_ret2
      exact ⟨rfl, HB1.out⟩
end Go.Proofs.Ytmnihombiabkgaa
