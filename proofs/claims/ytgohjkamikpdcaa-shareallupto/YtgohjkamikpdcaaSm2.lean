import Derived.Test.YtgohjkamikpdcaaSm
import Derived.Laws.OwnMore
namespace Go.Proofs.Ytgohjkamikpdcaa
open Go.RowKit Go.PlainAid
set_option linter.unusedVariables false
set_option linter.unusedSimpArgs false
theorem Chg.setCell {w : World} {g k : Nat} (u : Value) : Chg (fun j => j = g) w (w.setCell ⟨g, k, none⟩ u) :=
  ⟨rfl, rfl, rfl, by simp [World.setCell], fun j _ hn => Below.heap_setCell _ _ _ _ hn⟩
/-- A number is stored within a row of one's own. -/
theorem own_set {w : World} {L n g cap k : Nat} {zs : List Int} (h : w.ownsRow L 3 1 (.slice (some ⟨g, 0, none⟩) n cap) n (zs.map I)) (hk : k < n) (z : Int) :
    (w.setCell ⟨g, k, none⟩ (.int .i64 z)).ownsRow L 3 1 (.slice (some ⟨g, 0, none⟩) n cap) n ((zs.set k z).map I) ∧ w.frozen? ⟨g, k, none⟩ = false ∧ w.cell? ⟨g, k, none⟩ = some (.int .i64 (at0 zs k)) := by
  have hl : zs.length = n := by simpa using h.1
  rcases h.2 with ⟨h1, _⟩ | ⟨g2, c, cur, h1, h2, h3, h4, h5, h6, h7⟩
  · cases h1
  · cases h1
    have hB : Blk w g cur 3 := h3
    refine ⟨⟨by simpa using h.1, Or.inr ⟨g, cap, cur.setIfInBounds k (.int .i64 z), rfl, h2, hB.set k _, h4, h5, by simpa using h6, ?_⟩⟩, hB.frozen k, ?_⟩
    · rw [Array.toList_setIfInBounds, List.take_set, h7, List.map_set]; rfl
    · have := h.cells (g := g) rfl k (I (at0 zs k)) (by rw [List.getElem?_map, at0_some (by omega)]; rfl)
      rwa [addr_add, Nat.zero_add] at this
theorem own_form {w : World} {L n : Nat} {v : Value} {zs : List Int} (h : w.ownsRow L 3 1 v n (zs.map I)) (h0 : 0 < n) : ∃ g cap, v = .slice (some ⟨g, 0, none⟩) n cap ∧ n ≤ cap ∧ cap ≤ maxLen ∧ L ≤ g ∧ g < w.heap.size ∧ zs.length = n := by
  have hl : zs.length = n := by simpa using h.1
  obtain ⟨ao, cap, rfl, h1, h2, h3⟩ := own_read h
  obtain ⟨g, rfl, h4, h5, _⟩ := h3 h0
  exact ⟨g, cap, rfl, h1, h2, h4, h5, hl⟩
theorem own_at {w : World} {L n g cap k : Nat} {zs : List Int} (h : w.ownsRow L 3 1 (.slice (some ⟨g, 0, none⟩) n cap) n (zs.map I)) (hk : k < n) : w.cell? ⟨g, k, none⟩ = some (.int .i64 (at0 zs k)) := by
  have hl : zs.length = n := by simpa using h.1
  have := h.cells (g := g) rfl k (I (at0 zs k)) (by rw [List.getElem?_map, at0_some (by omega)]; rfl)
  rwa [addr_add, Nat.zero_add] at this
set_option maxRecDepth 100000 in
set_option maxHeartbeats 800000 in
theorem index_any {ao : Option Addr} {n c : Nat} {zs : List Int} (w : World) (hl : zs.length = n) (hx : FromI w ao zs) (hn : n ≤ maxLen) :
    Calls Try.prog 45 #[.slice ao n c, .func (.func 32) #[] #[]] w fun r w' => ∃ i : Int, r = .returned (.int .i64 i) ∧ decide (0 ≤ i) = !(zs.all okW) ∧ w' = w := by
  unfold maxLen at hn
  have HX : Hid (FromI w ao zs) := hx
  clear hx
  go_enter Try.func45, Try.ntmps45
  go_wp2
  go_loopw [8] (fun i wr => ∃ k : Nat, k ≤ n ∧ i = .int .i64 k ∧ wr = w ∧ Hid (∀ j, j < k → okW (at0 zs j) = true)) (fun i _ => n - (intOf i).toNat)
  case atStart => exact ⟨0, Nat.zero_le _, rfl, rfl, fun j h => by omega⟩
  case round =>
    obtain ⟨k, hk, rfl, rfl, HE⟩ := hrel
    by_cases hlt : k < n
    · obtain ⟨b1, o1, rfl, e1⟩ := FromI.at (k := k) HX.out (by omega)
      have hE2 : okW (at0 zs k) = true → ∀ j, j < k + 1 → okW (at0 zs j) = true := fun h j hj => by
        by_cases e : j = k
        · rw [e, h]
        · exact HE.out j (by omega)
      have hE3 : okW (at0 zs k) = false → zs.all okW = false := fun h => by
        rw [List.all_eq_false]
        exact ⟨at0 zs k, List.mem_of_getElem? (at0_some (by omega)), by simp [h]⟩
      generalize at0 zs k = z at e1 hE2 hE3
      by_cases hz : okW z = true
      · have HE3 : Hid _ := hE2 hz
        clear hE2 hE3
        go_wp2_with (go_at_call 32; refine (ok30_any z _).mono ?_; rw [hz]; rintro e w' ⟨rfl, rfl⟩)
        go_roundw
        case rel => exact ⟨k + 1, by omega, by go_num, by trivial, HE3.out⟩
        case measure => simp [intOf]; omega
      · have hz' : okW z = false := by simpa using hz
        have HE3 : Hid _ := hE3 hz'
        clear hE2 hE3 hz
        go_wp2_with (go_at_call 32; refine (ok30_any z _).mono ?_; rw [hz']; rintro e w' ⟨rfl, rfl⟩)
        go_ret
        refine ⟨k, rfl, ?_, rfl⟩
        rw [HE3.out]; simp
    · go_wp2
      go_ret
      refine ⟨-1, rfl, ?_, rfl⟩
      have : zs.all okW = true := by
        rw [List.all_eq_true]
        intro x hx
        obtain ⟨j, hj, rfl⟩ := List.getElem_of_mem hx
        have := HE.out j (by omega)
        rwa [at0_lt hj] at this
      rw [this]; rfl
set_option maxRecDepth 100000 in
theorem contains_any {ao : Option Addr} {n c : Nat} {zs : List Int} (w : World) (hl : zs.length = n) (hx : FromI w ao zs) (hn : n ≤ maxLen) :
    Calls Try.prog 31 #[.slice ao n c, .func (.func 32) #[] #[]] w fun r w' => r = .returned (.bool (!(zs.all okW))) ∧ w' = w := by
  have hc := index_any (c := c) w hl hx hn
  clear hx
  go_enter Try.func31, Try.ntmps31
  go_wp2_with (go_at_call 45; refine hc.mono ?_; rintro e w' ⟨i, rfl, hi, rfl⟩)
  go_ret
  exact ⟨by rw [← hi]; rfl, rfl⟩
/-- Are these weights right? -/
def rightW (ws : List Int) : Bool := decide (1 ≤ ws.length) && decide (ws.length ≤ 16) && ws.all okW
set_option maxRecDepth 100000 in
theorem right_any {ao : Option Addr} {n c : Nat} {zs : List Int} (w : World) (hl : zs.length = n) (hx : FromI w ao zs) (hn : n ≤ maxLen) :
    Calls Try.prog 18 #[.slice ao n c] w fun r w' => r = .returned (.bool (rightW zs)) ∧ w' = w := by
  have hc := contains_any (c := c) w hl hx hn
  clear hx
  unfold maxLen at hn
  by_cases h1 : n < 1
  · have e : rightW zs = false := by simp [rightW]; omega
    rw [e]
    obtain rfl : n = 0 := by omega
    go_enter Try.func18, Try.ntmps18
    go_wp2
    go_ret
    exact ⟨rfl, rfl⟩
  · by_cases h2 : 16 < n
    · have e : rightW zs = false := by simp [rightW]; omega
      rw [e]
      have h3 : ¬ (n : Int) < 1 := by omega
      have h4 : (16 : Int) < n := by omega
      go_enter Try.func18, Try.ntmps18
      go_wp2
      go_ret
      exact ⟨rfl, rfl⟩
    · have e : rightW zs = zs.all okW := by
        have a : decide (1 ≤ zs.length) = true := by simp; omega
        have b : decide (zs.length ≤ 16) = true := by simp; omega
        simp only [rightW, a, b, Bool.true_and]
      rw [e]
      have h3 : ¬ (n : Int) < 1 := by omega
      have h4 : ¬ (16 : Int) < n := by omega
      clear e
      generalize zs.all okW = b at hc ⊢
      go_enter Try.func18, Try.ntmps18
      go_wp2_with (go_at_call 31; refine hc.mono ?_; rintro e w' ⟨rfl, rfl⟩)
      go_ret
      exact ⟨by simp, rfl⟩
set_option maxRecDepth 100000 in
set_option maxHeartbeats 800000 in
theorem clone_any {b off n c : Nat} {zs : List Int} (w : World) (hl : zs.length = n) (hx : FromI w (some ⟨b, off, none⟩) zs) (h0 : 0 < n) (hn : n * 8 ≤ 140737488355328) :
    Calls Try.prog 33 #[.slice (some ⟨b, off, none⟩) n c] w fun r w' => ∃ v, r = .returned v ∧ w'.ownsRow w.heap.size 3 1 v n (zs.map I) ∧ Below w.heap.size w w' := by
  have q22 : ∀ (w : World) (a : Option Addr) (n c n' c' : Nat), (binOp .eql 22 (.slice a n c) (.slice none n' c')).run Try.prog w = .ok (.bool a.isNone) w := fun w a n c n' c' => Lib.run_eql_slice_nil w _ _ a n c n' c' Try.underlying22
  have hx2 : FromI (w.alloc (.cells #[] 3)) (some ⟨b, off, none⟩) zs := hx.all ((Below.refl _ _).alloc (Nat.le_refl _) _)
  have HX : Hid (FromI (w.alloc (.cells #[] 3)) (some ⟨b, off, none⟩) zs) := hx2
  clear hx hx2
  go_enter Try.func33, Try.ntmps33
  go_wp2_with (first
    | (at_builtin; go_must (refine wpList_appN rfl _ _ rfl w.heap.size 0 _ [] rfl (World.ownsRow_made w #[] 0 (Nat.le_refl _) (Nat.zero_le _) rfl) (some ⟨b, off, none⟩) n c zs rfl hl (by intro h; cases h) HX.out (by omega) (by simp) ?_))
    | fail)
  intro v' w1 hown hgr _
  replace hown : w1.ownsRow w.heap.size 3 1 v' n (zs.map I) := by simpa using hown
  have hbl : Below w.heap.size w w1 := (hgr.ofAlloc).below (fun j hj => by cases hj; exact Nat.le_refl _) (Nat.le_refl _)
  clear hgr
  go_wp2
  go_ret
  exact ⟨_, rfl, hown, hbl⟩
set_option maxRecDepth 100000 in
set_option maxHeartbeats 800000 in
theorem max_any {b off n c : Nat} {zs : List Int} (w : World) (hl : zs.length = n) (hx : FromI w (some ⟨b, off, none⟩) zs) (h0 : 0 < n) (hn : n ≤ maxLen) :
    Calls Try.prog 34 #[.slice (some ⟨b, off, none⟩) n c] w fun r w' => ∃ m : Int, r = .returned (.int .i64 m) ∧ ((∀ j, j < n → at0 zs j ≤ m) ∧ ∃ j, j < n ∧ at0 zs j = m) ∧ w' = w := by
  unfold maxLen at hn
  have HX : Hid (FromI w (some ⟨b, off, none⟩) zs) := hx
  obtain ⟨_, _, e, c0⟩ := hx.at (k := 0) (by omega)
  cases e
  rw [Nat.add_zero] at c0
  clear hx
  have hni : ¬ (n : Int) < 1 := by omega
  have hni2 : (0 : Int) < n := by omega
  go_enter Try.func34, Try.ntmps34
  go_wp2
  go_loopw [3, 4] (fun m i wr => ∃ (k : Nat) (z : Int), 1 ≤ k ∧ k ≤ n ∧ i = .int .i64 k ∧ m = .int .i64 z ∧ wr = w ∧ Hid ((∀ j, j < k → at0 zs j ≤ z) ∧ ∃ j, j < k ∧ at0 zs j = z)) (fun _ i _ => n - (intOf i).toNat)
  case atStart => exact ⟨1, at0 zs 0, Nat.le_refl _, by omega, rfl, rfl, rfl, fun j h => by rw [show j = 0 by omega]; exact Int.le_refl _, 0, by omega, rfl⟩
  case round =>
    obtain ⟨k, z, hk1, hk, rfl, rfl, rfl, HE⟩ := hrel
    by_cases hlt : k < n
    · obtain ⟨_, _, e, e1⟩ := FromI.at (k := k) HX.out (by omega)
      cases e
      have hE : (∀ j, j < k + 1 → at0 zs j ≤ max z (at0 zs k)) ∧ ∃ j, j < k + 1 ∧ at0 zs j = max z (at0 zs k) := by
        obtain ⟨h1, j, hj, h2⟩ := HE.out
        refine ⟨fun i hi => ?_, ?_⟩
        · by_cases e : i = k
          · subst e; omega
          · have := h1 i (by omega); omega
        · by_cases e : at0 zs k ≤ z
          · exact ⟨j, by omega, by omega⟩
          · exact ⟨k, by omega, by omega⟩
      have HE2 : Hid _ := hE
      clear hE HE c0
      generalize at0 zs k = y at e1 HE2
      go_wp2
      go_roundw
      case rel => exact ⟨k + 1, max z y, by omega, by omega, by go_num, by rw [show (if z < y then y else z) = max z y by omega], by trivial, HE2.out⟩
      case measure => simp [intOf]; omega
    · go_wp2
      go_ret
      obtain rfl : k = n := by omega
      exact ⟨z, rfl, HE.out, rfl⟩
/-- The weights as they count. -/
def cnt (ws : List Int) : List Int := if ws.all (· == 0) then ws.map (fun _ => 1) else ws
/-- The first k numbers written over. -/
def fillTo (z : Int) (k : Nat) (zs : List Int) : List Int := List.replicate k z ++ zs.drop k
theorem fillTo_zero (z : Int) (zs : List Int) : fillTo z 0 zs = zs := by simp [fillTo]
theorem fillTo_length {z : Int} {k : Nat} {zs : List Int} (h : k ≤ zs.length) : (fillTo z k zs).length = zs.length := by simp [fillTo]; omega
theorem fillTo_set {z : Int} {k : Nat} {zs : List Int} (h : k < zs.length) : (fillTo z k zs).set k z = fillTo z (k + 1) zs := by
  unfold fillTo
  rw [List.set_append_right _ _ (by simp), List.length_replicate, Nat.sub_self, List.drop_eq_getElem_cons h, List.set_cons_zero, List.replicate_succ']
  simp
theorem fillTo_all {z : Int} {zs : List Int} {n : Nat} (h : zs.length = n) : fillTo z n zs = List.replicate n z := by
  unfold fillTo
  rw [List.drop_of_length_le (by omega)]
  simp
theorem cnt_zero {zs : List Int} {n : Nat} (hl : zs.length = n) (h : ∀ j, j < n → at0 zs j = 0) : cnt zs = List.replicate n 1 := by
  have : zs.all (· == 0) = true := by
    rw [List.all_eq_true]
    intro x hx
    obtain ⟨j, hj, rfl⟩ := List.getElem_of_mem hx
    have := h j (by omega)
    rw [at0_lt hj] at this
    simp [this]
  unfold cnt
  rw [if_pos this, ← hl]
  exact List.map_const' ..
theorem cnt_some {zs : List Int} {j : Nat} (hj : j < zs.length) (h : at0 zs j ≠ 0) : cnt zs = zs := by
  have : zs.all (· == 0) = false := by
    rw [List.all_eq_false]
    exact ⟨at0 zs j, List.mem_of_getElem? (at0_some hj), by simpa using h⟩
  unfold cnt
  rw [if_neg (by simp [this])]
theorem cnt_length (zs : List Int) : (cnt zs).length = zs.length := by unfold cnt; split <;> simp
theorem okW_at {zs : List Int} (h : zs.all okW = true) {j : Nat} (hj : j < zs.length) : 0 ≤ at0 zs j ∧ at0 zs j ≤ 1048576 := by
  rw [List.all_eq_true] at h
  have := h _ (List.mem_of_getElem? (at0_some hj))
  simpa [okW] using this
set_option maxRecDepth 100000 in
set_option maxHeartbeats 1600000 in
theorem counting_any {b off n c : Nat} {zs : List Int} (w : World) (hl : zs.length = n) (hx : FromI w (some ⟨b, off, none⟩) zs) (h0 : 0 < n) (hn : n ≤ 16) (hok : zs.all okW = true) :
    Calls Try.prog 19 #[.slice (some ⟨b, off, none⟩) n c] w fun r w' => ∃ v, r = .returned v ∧ w'.ownsRow w.heap.size 3 1 v n ((cnt zs).map I) ∧ Below w.heap.size w w' := by
  have hc := clone_any (c := c) w hl hx h0 (by omega)
  clear hx
  go_enter Try.func19, Try.ntmps19
  go_wp2_with (go_at_call 33; refine hc.mono ?_; rintro e w1 ⟨v, rfl, hv, hb⟩; obtain ⟨g, cap, rfl, hcap, hcm, hLg, hgs, _⟩ := own_form hv h0; have HV : Hid (w1.ownsRow w.heap.size 3 1 (.slice (some ⟨g, 0, none⟩) n cap) n (zs.map I)) := hv; have HB : Hid (Below w.heap.size w w1) := hb; have HC : Hid (Calls Try.prog 34 #[.slice (some ⟨g, 0, none⟩) n cap] w1 fun r w' => ∃ m : Int, r = .returned (.int .i64 m) ∧ ((∀ j, j < n → at0 zs j ≤ m) ∧ ∃ j, j < n ∧ at0 zs j = m) ∧ w' = w1) := (by
      obtain ⟨_, _, e, _, _, _, hf, _⟩ := own_from hv
      cases e
      exact max_any (c := cap) w1 hl hf h0 (by unfold maxLen; omega)); clear hv hb hc)
  go_at_call 34
  refine HC.out.mono ?_
  rintro e w' ⟨m, rfl, hm, hw⟩
  have hw2 := hw.symm
  subst hw2
  by_cases hm0 : m = 0
  · subst hm0
    have hz : cnt zs = List.replicate n 1 := cnt_zero hl fun j hj => by
      have h1 := hm.1 j hj
      have h2 := (okW_at hok (j := j) (by omega)).1
      omega
    have HZ : Hid (cnt zs = List.replicate n 1) := hz
    clear HC hm hz hok
    go_wp2
    go_loopw [12] (fun i wr => ∃ k : Nat, k ≤ n ∧ i = .int .i64 k ∧ Hid (wr.ownsRow w.heap.size 3 1 (.slice (some ⟨g, 0, none⟩) n cap) n ((fillTo 1 k zs).map I)) ∧ Hid (Below w.heap.size w wr)) (fun i _ => n - (intOf i).toNat)
    case atStart => exact ⟨0, Nat.zero_le _, rfl, by rw [fillTo_zero]; exact HV, HB⟩
    case round =>
      obtain ⟨k, hk, rfl, HV2, HB2⟩ := hrel
      by_cases hlt : k < n
      · obtain ⟨hs, hfz, hcl⟩ := own_set HV2.out hlt 1
        rw [fillTo_set (by omega)] at hs
        have HS : Hid _ := hs
        clear hs
        go_wp2
        go_roundw
        case rel => exact ⟨k + 1, by omega, by go_num, HS, HB2.out.setCell hLg _⟩
        case measure => simp [intOf]; omega
      · obtain rfl : k = n := by omega
        go_wp2
        go_ret
        refine ⟨_, rfl, ?_, HB2.out⟩
        have := HV2.out
        rw [fillTo_all hl] at this
        rw [HZ.out]
        exact this
  · obtain ⟨j, hj, hjm⟩ := hm.2
    have hz : cnt zs = zs := cnt_some (j := j) (by omega) (by omega)
    have HZ : Hid (cnt zs = zs) := hz
    clear HC hm hz hok hjm hj
    go_wp2
    go_ret
    refine ⟨_, rfl, ?_, HB.out⟩
    rw [HZ.out]
    exact HV.out
end Go.Proofs.Ytgohjkamikpdcaa
