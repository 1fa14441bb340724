import Derived.Test.YtmnihombiabkgaaTh
namespace Go.Proofs.Ytmnihombiabkgaa
open Go.RowKit Go.PlainAid Go.MapKept
set_option linter.unusedVariables false
set_option linter.unusedSimpArgs false
theorem flatT_set {zs : List Tm} {k : Nat} (h : k < zs.length) (x : Tm) : ((((flatT zs).set (k * 4) (.int .i64 x.due)).set (k * 4 + 1) (.int .i64 x.num)).set (k * 4 + 2) (.int .i64 x.kind)).set (k * 4 + 3) (.int .i64 x.id) = flatT (zs.set k x) := by
  induction zs generalizing k with
  | nil => simp at h
  | cons y t ih =>
    cases k with
    | zero => simp [flatT, Tm.row]
    | succ k =>
      have := ih (k := k) (by simpa using h)
      simp only [flatT, Tm.row, List.flatMap_cons, List.set_cons_succ] at this ⊢
      rw [← this, show (k + 1) * 4 = k * 4 + 1 + 1 + 1 + 1 by omega]
      simp
theorem own_set4 {w : World} {L n g cap k : Nat} {zs : List Tm} (h : w.ownsRow L 50 4 (.slice (some ⟨g, 0, none⟩) n cap) n (flatT zs)) (hl : zs.length = n) (hk : k < n) (x : Tm) :
    ((((w.setCell ⟨g, k * 4, none⟩ (.int .i64 x.due)).setCell ⟨g, k * 4 + 1, none⟩ (.int .i64 x.num)).setCell ⟨g, k * 4 + 2, none⟩ (.int .i64 x.kind)).setCell ⟨g, k * 4 + 3, none⟩ (.int .i64 x.id)).ownsRow L 50 4 (.slice (some ⟨g, 0, none⟩) n cap) n (flatT (zs.set k x)) ∧ (∀ q, w.frozen? ⟨g, q, none⟩ = false) ∧
      Chg (fun b => b = g) w ((((w.setCell ⟨g, k * 4, none⟩ (.int .i64 x.due)).setCell ⟨g, k * 4 + 1, none⟩ (.int .i64 x.num)).setCell ⟨g, k * 4 + 2, none⟩ (.int .i64 x.kind)).setCell ⟨g, k * 4 + 3, none⟩ (.int .i64 x.id)) := by
  rcases h.2 with ⟨h1, _⟩ | ⟨g2, c, cur, h1, h2, h3, h4, h5, h6, h7⟩
  · cases h1
  · cases h1
    have hB : Blk w g cur 50 := h3
    refine ⟨⟨by rw [flatT_len]; simp [hl], Or.inr ⟨g, cap, (((cur.setIfInBounds (k * 4) (.int .i64 x.due)).setIfInBounds (k * 4 + 1) (.int .i64 x.num)).setIfInBounds (k * 4 + 2) (.int .i64 x.kind)).setIfInBounds (k * 4 + 3) (.int .i64 x.id), rfl, h2, (((hB.set (k * 4) _).set (k * 4 + 1) _).set (k * 4 + 2) _).set (k * 4 + 3) _, h4, h5, by simpa using h6, ?_⟩⟩, fun q => hB.frozen q, ?_⟩
    · simp only [Array.toList_setIfInBounds, List.take_set, h7]
      exact flatT_set (by omega) x
    · exact (((setCell_chg _ _ _ _).trans (setCell_chg _ _ _ _) (fun _ _ e => e)).trans (setCell_chg _ _ _ _) (fun _ _ e => e)).trans (setCell_chg _ _ _ _) (fun _ _ e => e)
set_option maxRecDepth 100000 in
set_option maxHeartbeats 3200000 in
theorem ix_any {base whb : Nat} {now : Int} {v : Value} {l : List Tm} (w : World) (hr : w.ownsRow base 50 4 v l.length (flatT l)) (hlen : l.length ≤ 1000000) (c66 : w.cell? ⟨whb, 66, none⟩ = some (.int .i64 now)) :
    Calls Try.prog 43 #[v, .func (.func 31) #[.pointer (some ⟨whb, 0, none⟩)] #[]] w fun r w' => ∃ q : Int, r = .returned (.int .i64 q) ∧ Below w.heap.size w w' ∧ ((q = -1 ∧ ∀ x ∈ l, x.due ≠ now) ∨ ∃ i : Nat, q = i ∧ (∀ x ∈ l.take i, x.due ≠ now) ∧ ∃ x, l[i]? = some x ∧ x.due = now) := by
  obtain ⟨ao, cap, rfl, hnc, hcm, hat⟩ := own_read hr
  unfold maxLen at hcm
  obtain ⟨n, hn⟩ : ∃ n, n = l.length := ⟨_, rfl⟩
  have HR : Hid (0 < n → ∃ g, ao = some ⟨g, 0, none⟩ ∧ ∀ (wr : World) (j : Nat) (x : Tm), Below w.heap.size w wr → l[j]? = some x → wr.cell? ⟨g, j * 4, none⟩ = some (.int .i64 x.due) ∧ wr.cell? ⟨g, j * 4 + 1, none⟩ = some (.int .i64 x.num) ∧ wr.cell? ⟨g, j * 4 + 2, none⟩ = some (.int .i64 x.kind) ∧ wr.cell? ⟨g, j * 4 + 3, none⟩ = some (.int .i64 x.id)) := fun h0 => by
    obtain ⟨g, e, _⟩ := hat (by omega)
    subst e
    exact ⟨g, rfl, fun wr j x hb hx => cellT (ownsRow_same hr (fun g' e => hb.block g' (ownsRow_lt hr e).2)) hx⟩
  rw [← hn] at hlen hnc ⊢
  have HN : Hid (n = l.length) := hn
  have HC : Hid (∀ wr, Below w.heap.size w wr → wr.cell? ⟨whb, 66, none⟩ = some (.int .i64 now)) := fun wr hb => (hb.cell (p := ⟨whb, 66, none⟩) (World.block_lt_of_cell? w _ c66)).trans c66
  clear hr hat hn c66
  go_enter Try.func43, Try.ntmps43
  go_wp2_with fail
  go_loopw [8, 5] (fun s8 _ wr => ∃ k : Nat, k ≤ n ∧ s8 = .int .i64 k ∧ (∀ x ∈ l.take k, x.due ≠ now) ∧ Below w.heap.size w wr) (fun s8 _ _ => n - (intOf s8).toNat)
  case atStart => exact ⟨0, by omega, rfl, (fun x hx => by simp at hx), Below.refl _ _⟩
  case round =>
    obtain ⟨k, hk, rfl, hall, hbe⟩ := hrel
    have HALL : Hid (∀ x ∈ l.take k, x.due ≠ now) := hall
    have HBE : Hid (Below w.heap.size w wr) := hbe
    clear hall hbe
    by_cases hlt : k < n
    · obtain ⟨g, hg, hcells⟩ := HR.out (by omega)
      subst hg
      obtain ⟨x, hx⟩ : ∃ x, l[k]? = some x := ⟨l[k]'(by have := HN.out; omega), List.getElem?_eq_getElem _⟩
      obtain ⟨x0, x1, x2, x3⟩ := hcells wr k x HBE.out hx
      have HX : Hid (l[k]? = some x) := hx
      clear hx hcells
      go_wp2_with fail
      refine Calls.mono (isDue_any x whb now wr (HC.out wr HBE.out)) ?_
      rintro e w1 ⟨rfl, hb1⟩
      have HB1 : Hid (Below w.heap.size w w1) := show Below w.heap.size w w1 from HBE.out.trans (hb1.mono HBE.out.size)
      clear hb1 x0 x1 x2 x3 HBE
      by_cases hd : x.due = now
      · have HD : Hid (x.due = now) := hd
        rw [decide_eq_true hd]
        clear hd
        go_wp2_with fail
        go_ret
        exact ⟨_, rfl, HB1.out, Or.inr ⟨k, rfl, HALL.out, x, HX.out, HD.out⟩⟩
      · have HA2 : Hid (∀ y ∈ l.take (k + 1), y.due ≠ now) := fun y hy => by
          rw [List.take_add_one, HX.out] at hy
          rcases List.mem_append.1 hy with h | h
          · exact HALL.out y h
          · simp at h; subst h; exact hd
        rw [decide_eq_false hd]
        clear hd HALL
        go_wp2_with fail
        go_roundw
        case rel => exact ⟨k + 1, by omega, by go_num, HA2.out, HB1.out⟩
        case measure => simp [intOf]; omega
    · have HA2 : Hid (∀ y ∈ l, y.due ≠ now) := fun y hy => HALL.out y (by rw [List.take_of_length_le (by have := HN.out; omega)]; exact hy)
      go_wp2_with fail
      go_ret
      exact ⟨_, rfl, HBE.out, Or.inl ⟨rfl, HA2.out⟩⟩
end Go.Proofs.Ytmnihombiabkgaa
