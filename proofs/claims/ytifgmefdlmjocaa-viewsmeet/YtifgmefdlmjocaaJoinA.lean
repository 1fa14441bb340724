import Derived.Test.YtifgmefdlmjocaaCmg
import Derived.Test.YtifgmefdlmjocaaStk
import Derived.Test.YtifgmefdlmjocaaApp
namespace Go.Proofs.Ytifgmefdlmjocaa
open Go.RowKit Go.PlainAid Go.MapKept
set_option linter.unusedVariables false
set_option linter.unusedSimpArgs false
abbrev LT := Nat × Value × List Ent
def flatL (ls : List LT) : List Value := ls.flatMap fun x => [.int .i64 (x.1 : Int), x.2.1]
theorem flatL_app (ls : List LT) (x : LT) : flatL (ls ++ [x]) = flatL ls ++ [.int .i64 (x.1 : Int), x.2.1] := by simp [flatL]
theorem flatL_get : ∀ (ls : List LT) (i : Nat) (x : LT), ls[i]? = some x → (flatL ls)[i * 2]? = some (.int .i64 (x.1 : Int)) ∧ (flatL ls)[i * 2 + 1]? = some x.2.1
  | [], i, x, h => by simp at h
  | y :: t, 0, x, h => by
    simp at h
    subst h
    exact ⟨rfl, rfl⟩
  | y :: t, i + 1, x, h => by
    have ih := flatL_get t i x (by simpa using h)
    show (Value.int .i64 (y.1 : Int) :: y.2.1 :: flatL t)[(i + 1) * 2]? = _ ∧ (Value.int .i64 (y.1 : Int) :: y.2.1 :: flatL t)[(i + 1) * 2 + 1]? = _
    constructor
    · rw [show (i + 1) * 2 = i * 2 + 1 + 1 from by omega, List.getElem?_cons_succ, List.getElem?_cons_succ]
      exact ih.1
    · rw [show (i + 1) * 2 + 1 = i * 2 + 1 + 1 + 1 from by omega, List.getElem?_cons_succ, List.getElem?_cons_succ]
      exact ih.2
/-- The talk of ViewsMeet: the views, what was had, the digests under way. -/
structure MS (L tb vr vc n K : Nat) (hb mb : Nat → Nat) (LV : Nat → List Ent) (hv : Nat → Value) (Hs : Nat → List Ent) (sv : Value) (ls : List LT) (w : World) : Prop where
  tg : TG L tb vr vc n hb mb LV hv Hs sv w
  mi : MI n K LV Hs
  row : w.ownsRow L 41 2 sv ls.length (flatL ls)
  lt : ∀ x ∈ ls, x.1 < n ∧ DgM Hs x.1 x.2.2 ∧ w.ownsRow L 46 7 x.2.1 x.2.2.length (flatV x.2.2)
  ap : ∀ x ∈ ls, ∀ b, x.2.1.ownBlock = some b → ∀ k, k < 32 → (hv k).ownBlock ≠ some b
  ll : ls.length ≤ K
section
variable {L tb vr vc n K r : Nat} {hb mb : Nat → Nat} {LV LV' : Nat → List Ent} {hv hv' : Nat → Value} {Hs Hs' : Nat → List Ent} {sv : Value} {ls : List LT} {w w' w5 : World}
theorem MS.low (h : MS L tb vr vc n K hb mb LV hv Hs sv ls w) : L ≤ w.heap.size := h.tg.low
theorem MS.more (h : MS L tb vr vc n K hb mb LV hv Hs sv ls w) (hb2 : Below w.heap.size w w') : MS L tb vr vc n K hb mb LV hv Hs sv ls w' :=
  ⟨h.tg.more hb2, h.mi, ownsRow_same h.row (fun g hg => hb2.block g (ownsRow_lt h.row hg).2), fun x hx => ⟨(h.lt x hx).1, (h.lt x hx).2.1, row_more hb2 (h.lt x hx).2.2⟩, h.ap, h.ll⟩
theorem MS.mono (h : MS L tb vr vc n K hb mb LV hv Hs sv ls w) : MS L tb vr vc n (K + 1) hb mb LV hv Hs sv ls w := ⟨h.tg, h.mi.mono, h.row, h.lt, h.ap, Nat.le_succ_of_le h.ll⟩
/-- Whatever changes the talk's own blocks alone leaves what is under way. -/
theorem MS.rest (h : MS L tb vr vc n K hb mb LV hv Hs sv ls w) (hr : r < n) (hc : Chg (TB tb (mb r) hv) w w') (ht : TG L tb vr vc n hb mb LV' hv' Hs' sv w') (hm : MI n (K + 1) LV' Hs') (hg : GrowH Hs Hs') (ha : ∀ k, k < 32 → ∀ b, (hv' k).ownBlock = some b → (hv k).ownBlock = some b ∨ w.heap.size ≤ b) : MS L tb vr vc n (K + 1) hb mb LV' hv' Hs' sv ls w' := by
  have hno : ∀ b, TB tb (mb r) hv b → (∀ k, k < 32 → (hv k).ownBlock ≠ some b) → ∀ cu T, Blk w b cu T → T ≠ 38 → False := fun b hB hk cu T hb' hT => by
    rcases hB with rfl | rfl | ⟨k, hk1, hk2⟩
    · obtain ⟨C, hC, _⟩ := h.tg.tk
      exact hb'.ne_t hC hT rfl
    · exact (h.tg.vs r hr).map.ne_b hb' rfl
    · exact hk k hk1 hk2
  have hrow : w'.ownsRow L 41 2 sv ls.length (flatL ls) := ownsRow_same h.row (fun g hg' => hc.block g (ownsRow_lt h.row hg').2 (fun hB => by
    obtain ⟨cu, hcu⟩ := ownsRow_type h.row hg'
    refine hno g hB (fun k hk e => ?_) cu 41 hcu (by decide)
    obtain ⟨cu2, hcu2⟩ := ownsRow_type (h.tg.rows k hk) e
    exact Blk.ne_t (show Blk w g cu 41 from hcu) (show Blk w g cu2 46 from hcu2) (by decide) rfl))
  refine ⟨ht, hm, hrow, fun x hx => ⟨(h.lt x hx).1, (h.lt x hx).2.1.grow hg, ownsRow_same (h.lt x hx).2.2 (fun g hg' => hc.block g (ownsRow_lt (h.lt x hx).2.2 hg').2 (fun hB => ?_))⟩, fun x hx b hb' k hk e => ?_, Nat.le_succ_of_le h.ll⟩
  · obtain ⟨cu, hcu⟩ := ownsRow_type (h.lt x hx).2.2 hg'
    exact hno g hB (fun k hk e => h.ap x hx g hg' k hk e) cu 46 hcu (by decide)
  · rcases ha k hk b e with h1 | h1
    · exact h.ap x hx b hb' k hk h1
    · have := (ownsRow_lt (h.lt x hx).2.2 hb').2
      omega
theorem TG.setSent (h : TG L tb vr vc n hb mb LV hv Hs sv w) {m m' : Nat} {xs xs' : List Value} (hrow : w.ownsRow L 41 2 sv m xs) {v' : Value} (hg : Grew w w5 sv v') (ho : w5.ownsRow L 41 2 v' m' xs') :
    TG L tb vr vc n hb mb LV hv Hs v' (w5.setCell ⟨tb, 33, none⟩ v') ∧ (w5.setCell ⟨tb, 33, none⟩ v').ownsRow L 41 2 v' m' xs' ∧ Chg (fun k => k = tb ∨ sv.ownBlock = some k) w (w5.setCell ⟨tb, 33, none⟩ v') := by
  have hc := hg.chg
  obtain ⟨C, hB, c0, ck, cs⟩ := h.tk
  obtain ⟨cur, hvb, p0⟩ := h.vrow
  have tyk : ∀ (b : Nat) (D : Array Value) (U : TypeId), Blk w b D U → U ≠ 41 → ¬ sv.ownBlock = some b := fun b D U hB hU e => by
    obtain ⟨cu, hcu⟩ := ownsRow_type hrow e
    exact Blk.ne_t hB (show Blk w b cu 41 from hcu) hU rfl
  have mpk : ∀ (b : Nat) (LL : List Ent), HMap w b LL → ¬ sv.ownBlock = some b := fun b LL hm e => by
    obtain ⟨cu, hcu⟩ := ownsRow_type hrow e
    exact hm.ne_b (show Blk w b cu 41 from hcu) rfl
  have hb5 := hc.blk hB (tyk _ _ _ hB (by decide))
  have hv5 := hc.blk hvb (tyk _ _ _ hvb (by decide))
  have hs : Chg (fun b => b = tb) w5 (w5.setCell ⟨tb, 33, none⟩ v') := setCell_chg w5 tb 33 v'
  obtain ⟨n1, n2, n6⟩ := h.tbne
  have hcc : Chg (fun k => k = tb ∨ sv.ownBlock = some k) w (w5.setCell ⟨tb, 33, none⟩ v') := (hc.mono (fun _ _ e => Or.inr e)).trans hs (fun _ _ e => Or.inl e)
  have hsz : 33 < C.size := (Array.getElem?_eq_some_iff.1 cs).1
  refine ⟨⟨⟨_, hb5.set 33 v', ?_, fun j hj => ?_, ?_⟩, ⟨cur, hs.blk hv5 n1, p0⟩, fun i hi => ((h.vs i hi).keep hc (tyk _ _ _ (h.vs i hi).blk (by decide)) (mpk _ _ (h.vs i hi).map)).keep hs (n2 i hi).1 (n2 i hi).2, h.ne, fun j hj => ?_, h.apart, h.lo, Nat.le_trans h.low (Nat.le_trans hc.size hs.size)⟩, ?_, hcc⟩
  · rw [Array.getElem?_setIfInBounds_ne (by omega)]
    exact c0
  · rw [Array.getElem?_setIfInBounds_ne (by omega)]
    exact ck j hj
  · simp [Array.getElem?_setIfInBounds, hsz]
  · refine ownsRow_same (h.rows j hj) (fun g hg2 => hcc.block g (ownsRow_lt (h.rows j hj) hg2).2 (fun e => ?_))
    obtain ⟨cu, hcu⟩ := ownsRow_type (h.rows j hj) hg2
    rcases e with e | e
    · exact n6 j hj g hg2 e
    · exact tyk g cu 46 hcu (by decide) e
  · refine ownsRow_same ho (fun g hg2 => Below.heap_setCell _ _ _ _ (fun e => ?_))
    obtain ⟨cu, hcu⟩ := ownsRow_type ho hg2
    exact Blk.ne_t (show Blk w5 g cu 41 from hcu) hb5 (by decide) e
/-- One digest more is under way. -/
theorem MS.send (h : MS L tb vr vc n K hb mb LV hv Hs sv ls w) {u v' : Value} {D : List Ent} (hr : r < n) (hD : DgM Hs r D) (hu : w.ownsRow L 46 7 u D.length (flatV D)) (hua : ∀ b, u.ownBlock = some b → ∀ k, k < 32 → (hv k).ownBlock ≠ some b) (hg : Grew w w5 sv v') (ho : w5.ownsRow L 41 2 v' (ls.length + 1) (flatL ls ++ [.int .i64 (r : Int), u])) :
    MS L tb vr vc n (K + 1) hb mb LV hv Hs v' (ls ++ [(r, u, D)]) (w5.setCell ⟨tb, 33, none⟩ v') ∧ Chg (fun k => k = tb ∨ sv.ownBlock = some k) w (w5.setCell ⟨tb, 33, none⟩ v') := by
  obtain ⟨h1, h2, h3⟩ := h.tg.setSent h.row hg ho
  obtain ⟨C, hB, _⟩ := h.tg.tk
  have hk : ∀ {x : Value} {m : Nat} {xs : List Value}, w.ownsRow L 46 7 x m xs → (w5.setCell ⟨tb, 33, none⟩ v').ownsRow L 46 7 x m xs := fun ho' => ownsRow_same ho' (fun g hg2 => h3.block g (ownsRow_lt ho' hg2).2 (fun e => by
    obtain ⟨cu, hcu⟩ := ownsRow_type ho' hg2
    rcases e with e | e
    · exact Blk.ne_t (show Blk w g cu 46 from hcu) hB (by decide) e
    · obtain ⟨cu2, hcu2⟩ := ownsRow_type h.row e
      exact Blk.ne_t (show Blk w g cu 46 from hcu) (show Blk w g cu2 41 from hcu2) (by decide) rfl))
  refine ⟨⟨h1, h.mi.mono, ?_, fun x hx => ?_, fun x hx => ?_, ?_⟩, h3⟩
  · rw [flatL_app, List.length_append]
    exact h2
  · rcases List.mem_append.1 hx with hx | hx
    · exact ⟨(h.lt x hx).1, (h.lt x hx).2.1, hk (h.lt x hx).2.2⟩
    · rw [List.mem_singleton.1 hx]
      exact ⟨hr, hD, hk hu⟩
  · rcases List.mem_append.1 hx with hx | hx
    · exact h.ap x hx
    · rw [List.mem_singleton.1 hx]
      exact hua
  · rw [List.length_append]
    exact Nat.succ_le_succ h.ll
end
theorem digL_at {Hs : Nat → List Ent} {u k : Nat} {y : Ent} (hk : k < 4) (hl : lastH Hs u k = some y) : (digL Hs u 4)[(digL Hs u k).length]? = some y := by
  have h1 : ∀ m, ∃ t, digL Hs u (k + 1 + m) = digL Hs u k ++ y :: t := by
    intro m
    induction m with
    | zero => exact ⟨[], by rw [Nat.add_zero, digL_succ, hl]; rfl⟩
    | succ m ih =>
      obtain ⟨t, ht⟩ := ih
      exact ⟨t ++ (lastH Hs u (k + 1 + m)).toList, by rw [show k + 1 + (m + 1) = k + 1 + m + 1 from rfl, digL_succ, ht]; simp⟩
  obtain ⟨t, ht⟩ := h1 (3 - k)
  rw [show k + 1 + (3 - k) = 4 from by omega] at ht
  rw [ht]
  simp
theorem sameV_re (r : Int) (x : Ent) : sameV (reR r x) x = true := by unfold sameV reR; simp
end Go.Proofs.Ytifgmefdlmjocaa
namespace Go.Proofs.Ytifgmefdlmjocaa
open Go.RowKit Go.PlainAid Go.MapKept
set_option linter.unusedVariables false
set_option linter.unusedSimpArgs false
theorem row_ne41 {w : World} {base e s n b : Nat} {v : Value} {xs : List Value} {D : Array Value} {U : TypeId} (h : w.ownsRow base e s v n xs) (hB : Blk w b D U) (hU : U ≠ e) : ¬ v.ownBlock = some b := fun hh => by
  obtain ⟨cu, hcu⟩ := ownsRow_type h hh
  exact hB.ne_t (show Blk w b cu e from hcu) hU rfl
theorem info41 : (Try.prog.info? 41).map (fun i => (i.zero, i.size, i.bytes)) = some (some (.agg #[.int .i64 0, .slice none 0 0]), 2, 32) := by kernel_rfl
set_option maxRecDepth 100000 in
set_option maxHeartbeats 6400000 in
theorem step1_any {L tb vr vc n K r : Nat} {hb mb : Nat → Nat} {LV : Nat → List Ent} {hv : Nat → Value} {Hs : Nat → List Ent} {sv : Value} {ls : List LT} (kd who a nn d u h : Int) (w : World) (hS : MS L tb vr vc n K hb mb LV hv Hs sv ls w) (hn : 2 ≤ n ∧ n ≤ 8) (hK : K ≤ 1000) (hrn : r < n) (hwho : wx who (n : Int) = (r : Int)) (hkd : wx kd 3 = 1) (hkr : -9223372036854775808 ≤ kd ∧ kd ≤ 9223372036854775807) (hwr : -9223372036854775808 ≤ who ∧ who ≤ 9223372036854775807) :
    Calls Try.prog 12 #[.pointer (some ⟨tb, 0, none⟩), .agg #[.int .i64 kd, .int .i64 who, .int .i64 a, .int .i64 nn, .int .i64 d, .int .i64 u, .int .i64 h]] w fun e w' => e = .returned (.bool true) ∧ ∃ sv' u' D', MS L tb vr vc n (K + 1) hb mb LV hv Hs sv' (ls ++ [(r, u', D')]) w' ∧ Below L w w' := by
  have hw0 : ∀ W, Calls Try.prog 10 #[.int .i64 who, .int .i64 0, .int .i64 ((n : Int) - 1)] W fun e w' => e = .returned (.int .i64 (r : Int)) ∧ w' = W := fun W => by
    have := within_any who 0 ((n : Int) - 1) W (by omega) (by omega) (by omega) (by omega) (by omega)
    rw [show (0 : Int) + wx who ((n : Int) - 1 - 0 + 1) = (r : Int) from by rw [Int.zero_add, show (n : Int) - 1 - 0 + 1 = (n : Int) from by omega]; exact hwho] at this
    exact this
  have hw2 : ∀ W, Calls Try.prog 10 #[.int .i64 kd, .int .i64 0, .int .i64 2] W fun e w' => e = .returned (.int .i64 1) ∧ w' = W := fun W => by
    have := within_any kd 0 2 W (by omega) (by omega) (by omega) (by omega) (by omega)
    rw [show (0 : Int) + wx kd (2 - 0 + 1) = 1 from by rw [Int.zero_add]; exact hkd] at this
    exact this
  have HS : Hid (MS L tb vr vc n K hb mb LV hv Hs sv ls w) := hS
  obtain ⟨X, hX⟩ : ∃ X, X = w.alloc (.cells #[.int .i64 kd, .int .i64 who, .int .i64 a, .int .i64 nn, .int .i64 d, .int .i64 u, .int .i64 h] 29) := ⟨_, rfl⟩
  have hbX : Below w.heap.size w X := by rw [hX]; exact (Below.refl _ _).alloc (Nat.le_refl _) _
  obtain ⟨sb, hsb⟩ : ∃ sb, sb = w.heap.size := ⟨_, rfl⟩
  have hBs : Blk X sb #[.int .i64 kd, .int .i64 who, .int .i64 a, .int .i64 nn, .int .i64 d, .int .i64 u, .int .i64 h] 29 := by rw [hX, hsb]; exact heap_alloc_new w _
  have HBX : Hid (Below w.heap.size w X) := hbX
  have HSX : Hid (MS L tb vr vc n K hb mb LV hv Hs sv ls X) := hS.more hbX
  have x0 : X.cell? ⟨sb, 0, none⟩ = some (.int .i64 kd) := hBs.cell 0
  have x1 : X.cell? ⟨sb, 1, none⟩ = some (.int .i64 who) := hBs.cell 1
  obtain ⟨tc0, tcr, tck⟩ := hS.tg.more hbX |>.cellr hrn
  have tcr : X.cell? ⟨vr, r, none⟩ = some (.pointer (some ⟨hb r, 0, none⟩)) := tcr
  have hwn : IntKind.i64.wrap ((n : Int) - 1) = (n : Int) - 1 := by rw [IntKind.wrap_i64]; omega
  have HN : Hid (2 ≤ n ∧ n ≤ 8) := hn
  have HLL : Hid ((LV r).length ≤ 100000) := show (LV r).length ≤ 100000 from by have := hS.mi.ll r hrn; omega
  have HHL : Hid (∀ i, (Hs i).length ≤ 1000) := fun i => Nat.le_trans (hS.mi.len i) hK
  have HLS : Hid (ls.length ≤ 1000) := Nat.le_trans hS.ll hK
  have hr8 : r < 8 := by omega
  clear hS hbX hBs hn tck hwho hkd hkr hwr
  go_enter Try.func12, Try.ntmps12
  go_upto_region 1 with fail
  rw [← hX, ← hsb]
  clear hX hsb
  go_wp2_with fail
  refine (hw0 _).mono ?_
  rintro e w' ⟨rfl, hw'⟩
  replace hw' := hw'.symm
  subst hw'
  go_wp2_with fail
  refine (hw2 _).mono ?_
  rintro e w' ⟨rfl, hw'⟩
  replace hw' := hw'.symm
  subst hw'
  clear hw0 hw2
  go_wp2_with fail
  refine Calls.mono (digest_any X (HSX.out.tg.vs r hrn) HLL.out) ?_
  rintro e9 Y ⟨dv, D, rfl, hTo, hro, hbY⟩
  obtain ⟨hDe, hDM⟩ := HSX.out.mi.digest hrn hTo
  obtain ⟨da, dc, hdv, _⟩ := own_slice hro
  subst hdv
  have HDE : Hid (D = digL Hs r 4) := hDe
  have HDM : Hid (DgM Hs r D) := hDM
  have HRO : Hid (Y.ownsRow X.heap.size 46 7 (.slice da D.length dc) D.length (flatV D)) := hro
  have HBY : Hid (Below X.heap.size X Y) := hbY
  have HSY : Hid (MS L tb vr vc n K hb mb LV hv Hs sv ls Y) := HSX.out.more hbY
  have HNB : Hid (X.heap.size ≤ Y.heap.size) := hbY.size
  clear hTo hro hbY hDe hDM x0 x1 tc0 tcr
  go_wp2_with fail
  go_loopw [12, 13] (fun s12 s13 wr => ∃ k : Nat, k ≤ 4 ∧ s12 = .int .i64 ((digL Hs r k).length : Nat) ∧ s13 = .int .i64 k ∧ Below Y.heap.size Y wr) (fun _ s _ => 4 - (intOf s).toNat)
  case atStart => exact ⟨0, by omega, rfl, rfl, Below.refl _ _⟩
  case round =>
    obtain ⟨k, hk, rfl, rfl, hbel⟩ := hrel
    have HB : Hid (Below Y.heap.size Y wr) := hbel
    have HSW : Hid (MS L tb vr vc n K hb mb LV hv Hs sv ls wr) := HSY.out.more hbel
    clear hbel
    by_cases hlt : k < 4
    · obtain ⟨tc0, tcr, tck⟩ := HSW.out.tg.cellr hrn
      have tcq := tck (r * 4 + k) (by omega)
      clear tck
      have HRW : Hid (wr.ownsRow L 46 7 (hv (r * 4 + k)) (Hs (r * 4 + k)).length (flatV (Hs (r * 4 + k)))) := HSW.out.tg.rows (r * 4 + k) (by omega)
      obtain ⟨ha, hcp, hhv, _⟩ := own_slice HRW.out
      have HRF : Hid (wr.ownsRow L 46 7 (.slice ha (Hs (r * 4 + k)).length hcp) (Hs (r * 4 + k)).length (flatV (Hs (r * 4 + k)))) := show wr.ownsRow L 46 7 (.slice ha (Hs (r * 4 + k)).length hcp) (Hs (r * 4 + k)).length (flatV (Hs (r * 4 + k))) from by rw [← hhv]; exact HRW.out
      rw [hhv] at tcq
      have hi8 : ¬ (8 : Int) ≤ (r : Int) := by omega
      have hi4 : ¬ (4 : Int) ≤ (k : Int) := by omega
      have HSU : Hid (digL Hs r (k + 1) = digL Hs r k ++ (lastH Hs r k).toList) := digL_succ Hs r k
      rw [← Nat.add_assoc] at tcq
      clear HRW hhv
      by_cases h0 : (Hs (r * 4 + k)).length = 0
      · have HNX : Hid ((digL Hs r (k + 1)).length = (digL Hs r k).length) := show (digL Hs r (k + 1)).length = (digL Hs r k).length from by
          rw [HSU.out]
          have : lastH Hs r k = none := by unfold lastH; rw [List.length_eq_zero_iff.1 h0]; rfl
          rw [this]
          simp
        have hz : ((((Hs (r * 4 + k)).length : Nat) : Int) == 0) = true := by rw [h0]; rfl
        generalize (Hs (r * 4 + k)).length = hl at *
        clear h0 HRF
        go_wp2_with fail
        go_roundw
        case rel => exact ⟨k + 1, by omega, by rw [HNX.out], by go_num, HB.out⟩
        case measure => simp [intOf]; omega
      · obtain ⟨x, hx⟩ : ∃ x, (Hs (r * 4 + k))[(Hs (r * 4 + k)).length - 1]? = some x := ⟨_, List.getElem?_eq_getElem (by omega)⟩
        have hlast : lastH Hs r k = some (reR r x) := by unfold lastH; rw [List.getLast?_eq_getElem?, hx]; rfl
        have HNX : Hid ((digL Hs r (k + 1)).length = (digL Hs r k).length + 1) := show (digL Hs r (k + 1)).length = (digL Hs r k).length + 1 from by rw [HSU.out, hlast]; simp
        have hdi : D[(digL Hs r k).length]? = some (reR r x) := by rw [HDE.out]; exact digL_at hlt hlast
        have hil : (digL Hs r k).length < D.length := (List.getElem?_eq_some_iff.1 hdi).1
        have hD4 : D.length ≤ 4 := HDM.out.len
        have hz : ((((Hs (r * 4 + k)).length : Nat) : Int) == 0) = false := by rw [beq_eq_false_iff_ne]; omega
        have hH1 := HHL.out (r * 4 + k)
        have HRD : Hid (wr.ownsRow X.heap.size 46 7 (.slice da D.length dc) D.length (flatV D)) := row_more HB.out HRO.out
        obtain ⟨dg, dgo, hda, hdf⟩ := own_from_row HRD.out (by omega)
        obtain ⟨hg, hgo, hha, hhf⟩ := own_from_row HRF.out (by omega)
        subst hda hha
        have HVD : Hid (VAt wr dg (dgo + (digL Hs r k).length * 7) (reR r x)) := hdf _ _ hdi
        have HVH : Hid (VAt wr hg (hgo + ((Hs (r * 4 + k)).length - 1) * 7) x) := hhf _ _ hx
        generalize hhl : (Hs (r * 4 + k)).length = hl at *
        obtain ⟨hm, hhm⟩ : ∃ hm, hl = hm + 1 := ⟨hl - 1, by omega⟩
        subst hhm
        rw [Nat.add_sub_cancel] at HVH
        generalize hii : (digL Hs r k).length = i0 at *
        clear hdf hhf hdi hlast hx HRD HRF h0 hhl hii HSU
        go_wp2_with fail
        rename_i K hK
        try rw [show ∀ a : Act, a.put none undef = a from fun _ => rfl]
        refine wp_region_mix (fun wq => VAt wq dg (dgo + i0 * 7) (reR r x) ∧ VAt wq hg (hgo + hm * 7) x) (fun i => i == 15 || i == 99) 99 (by kernel_rfl) rfl (by kernel_rfl) (by kernel_rfl) (by kernel_rfl) ?_
        refine withFrP (N := 197) rfl ?_
        intro f0 F0 hff
        have ee12 : f0 12 = Value.int .i64 (i0 : Nat) := hff 12
        have ee11 : f0 11 = Value.slice (some ⟨dg, dgo, none⟩) D.length dc := hff 11
        have ee14 : f0 14 = Value.slice (some ⟨hg, hgo, none⟩) (hm + 1) hcp := hff 14
        clear hff
        have HCC : (fun wq => VAt wq dg (dgo + i0 * 7) (reR r x) ∧ VAt wq hg (hgo + hm * 7) x) (({ wr with drawn := wr.drawn + 1 } : World)) := ⟨HVD.out.keep rfl, HVH.out.keep rfl⟩
        refine lyp F0 rfl HCC rfl (by omega) (wanted_none rfl) (v := Value.int .i64 (i0 : Nat)) (fun wr hwr => by simp only [execOp, (F0.eval 12 (by omega)).trans (show _ = Value.int .i64 (i0 : Nat) from by simp [upd, ee12, ee11, ee14])]; first | rfl | simp [go_sem]) fun F1 => ?_
        refine lyp F1 rfl HCC rfl (by omega) (wanted_none rfl) (v := Value.slice (some ⟨dg, dgo, none⟩) D.length dc) (fun wr hwr => by simp only [execOp, (F1.eval 11 (by omega)).trans (show _ = Value.slice (some ⟨dg, dgo, none⟩) D.length dc from by simp [upd, ee12, ee11, ee14])]; first | rfl | simp [go_sem]) fun F2 => ?_
        refine lyp F2 rfl HCC rfl (by omega) (wanted_none rfl) (v := Value.int .i64 (D.length : Nat)) (fun wr hwr => by simp only [execOp, resolve, invoke, builtin, List.map_toArray, List.map_cons, List.map_nil, (F2.eval 129 (by omega)).trans (show _ = Value.slice (some ⟨dg, dgo, none⟩) D.length dc from by simp [upd, ee12, ee11, ee14])]; simp [go_sem, Builtin.len_, Builtin.lenOf]) fun F3 => ?_
        refine lyp F3 rfl HCC rfl (by omega) (wanted_none rfl) (v := Value.bool false) (fun wr hwr => by simp only [execOp, (F3.eval 128 (by omega)).trans (show _ = Value.int .i64 (i0 : Nat) from by simp [upd, ee12, ee11, ee14]), (F3.eval 130 (by omega)).trans (show _ = Value.int .i64 (D.length : Nat) from by simp [upd, ee12, ee11, ee14])]; simp [go_sem, Act.eval, hil]) fun F4 => ?_
        refine lyp F4 rfl HCC rfl (by omega) (wanted_none rfl) (v := Value.bool false) (fun wr hwr => by simp only [execOp, (F4.eval 131 (by omega)).trans (show _ = Value.bool false from by simp [upd, ee12, ee11, ee14])]; first | rfl | simp [go_sem]) fun F5 => ?_
        refine lyp F5 rfl HCC rfl (by omega) (want_yes F5 rfl (e := 132) rfl (by omega) (show _ = Value.bool false from by simp [upd, ee12, ee11, ee14])) (v := Value.slice (some ⟨dg, dgo, none⟩) D.length dc) (fun wr hwr => by simp only [execOp, (F5.eval 11 (by omega)).trans (show _ = Value.slice (some ⟨dg, dgo, none⟩) D.length dc from by simp [upd, ee12, ee11, ee14])]; first | rfl | simp [go_sem]) fun F6 => ?_
        refine lyp F6 rfl HCC rfl (by omega) (want_yes F6 rfl (e := 132) rfl (by omega) (show _ = Value.bool false from by simp [upd, ee12, ee11, ee14])) (v := Value.int .i64 (i0 : Nat)) (fun wr hwr => by simp only [execOp, (F6.eval 12 (by omega)).trans (show _ = Value.int .i64 (i0 : Nat) from by simp [upd, ee12, ee11, ee14])]; first | rfl | simp [go_sem]) fun F7 => ?_
        refine lyp F7 rfl HCC rfl (by omega) (want_yes F7 rfl (e := 132) rfl (by omega) (show _ = Value.bool false from by simp [upd, ee12, ee11, ee14])) (v := Value.pointer (some ⟨dg, dgo + i0 * 7, none⟩)) (fun wr hwr => by simp only [execOp, (F7.eval 133 (by omega)).trans (show _ = Value.slice (some ⟨dg, dgo, none⟩) D.length dc from by simp [upd, ee12, ee11, ee14]), (F7.eval 134 (by omega)).trans (show _ = Value.int .i64 (i0 : Nat) from by simp [upd, ee12, ee11, ee14])]; simp only [Sem.run_bind, Sem.run_pure, Result.andThen_ok, idx_run 31 46 7 Try.underlying31 info46 wr dg dgo D.length dc i0 hil]; try rfl) fun F8 => ?_
        refine lyp F8 rfl HCC rfl (by omega) (want_yes F8 rfl (e := 132) rfl (by omega) (show _ = Value.bool false from by simp [upd, ee12, ee11, ee14])) (v := viewV (reR r x)) (fun wr hwr => by simp only [execOp, (F8.eval 135 (by omega)).trans (show _ = Value.pointer (some ⟨dg, dgo + i0 * 7, none⟩) from by simp [upd, ee12, ee11, ee14])]; simp [go_sem, viewV, hwr.1.c0, hwr.1.c1, hwr.1.c2, hwr.1.c3, hwr.1.c4, hwr.1.c5, hwr.1.c6]) fun F9 => ?_
        refine lyp F9 rfl HCC rfl (by omega) (want_yes F9 rfl (e := 132) rfl (by omega) (show _ = Value.bool false from by simp [upd, ee12, ee11, ee14])) (v := Value.slice (some ⟨hg, hgo, none⟩) (hm + 1) hcp) (fun wr hwr => by simp only [execOp, (F9.eval 14 (by omega)).trans (show _ = Value.slice (some ⟨hg, hgo, none⟩) (hm + 1) hcp from by simp [upd, ee12, ee11, ee14])]; first | rfl | simp [go_sem]) fun F10 => ?_
        refine lyp F10 rfl HCC rfl (by omega) (want_yes F10 rfl (e := 132) rfl (by omega) (show _ = Value.bool false from by simp [upd, ee12, ee11, ee14])) (v := Value.slice (some ⟨hg, hgo, none⟩) (hm + 1) hcp) (fun wr hwr => by simp only [execOp, (F10.eval 14 (by omega)).trans (show _ = Value.slice (some ⟨hg, hgo, none⟩) (hm + 1) hcp from by simp [upd, ee12, ee11, ee14])]; first | rfl | simp [go_sem]) fun F11 => ?_
        refine lyp F11 rfl HCC rfl (by omega) (want_yes F11 rfl (e := 132) rfl (by omega) (show _ = Value.bool false from by simp [upd, ee12, ee11, ee14])) (v := Value.int .i64 ((hm + 1) : Nat)) (fun wr hwr => by simp only [execOp, resolve, invoke, builtin, List.map_toArray, List.map_cons, List.map_nil, (F11.eval 138 (by omega)).trans (show _ = Value.slice (some ⟨hg, hgo, none⟩) (hm + 1) hcp from by simp [upd, ee12, ee11, ee14])]; simp [go_sem, Builtin.len_, Builtin.lenOf]) fun F12 => ?_
        refine lyp F12 rfl HCC rfl (by omega) (want_yes F12 rfl (e := 132) rfl (by omega) (show _ = Value.bool false from by simp [upd, ee12, ee11, ee14])) (v := Value.int .i64 (hm : Nat)) (fun wr hwr => by simp only [execOp, (F12.eval 139 (by omega)).trans (show _ = Value.int .i64 ((hm + 1) : Nat) from by simp [upd, ee12, ee11, ee14])]; simp [go_sem, Act.eval, show IntKind.i64.wrap (hm : Int) = (hm : Int) from by rw [IntKind.wrap_i64]; omega]) fun F13 => ?_
        refine lyp F13 rfl HCC rfl (by omega) (want_yes F13 rfl (e := 132) rfl (by omega) (show _ = Value.bool false from by simp [upd, ee12, ee11, ee14])) (v := Value.pointer (some ⟨hg, hgo + hm * 7, none⟩)) (fun wr hwr => by simp only [execOp, (F13.eval 137 (by omega)).trans (show _ = Value.slice (some ⟨hg, hgo, none⟩) (hm + 1) hcp from by simp [upd, ee12, ee11, ee14]), (F13.eval 140 (by omega)).trans (show _ = Value.int .i64 (hm : Nat) from by simp [upd, ee12, ee11, ee14])]; simp only [Sem.run_bind, Sem.run_pure, Result.andThen_ok, idx_run 31 46 7 Try.underlying31 info46 wr hg hgo (hm + 1) hcp hm (Nat.lt_succ_self _)]; try rfl) fun F14 => ?_
        refine lyp F14 rfl HCC rfl (by omega) (want_yes F14 rfl (e := 132) rfl (by omega) (show _ = Value.bool false from by simp [upd, ee12, ee11, ee14])) (v := viewV x) (fun wr hwr => by simp only [execOp, (F14.eval 141 (by omega)).trans (show _ = Value.pointer (some ⟨hg, hgo + hm * 7, none⟩) from by simp [upd, ee12, ee11, ee14])]; simp [go_sem, viewV, hwr.2.c0, hwr.2.c1, hwr.2.c2, hwr.2.c3, hwr.2.c4, hwr.2.c5, hwr.2.c6]) fun F15 => ?_
        refine lcp F15 rfl HCC rfl (by omega) (want_yes F15 rfl (e := 132) rfl (by omega) (show _ = Value.bool false from by simp [upd, ee12, ee11, ee14])) (g := 24) (args := #[viewV (reR r x), viewV x]) (by simp only [execOp, resolve, invoke, List.map_toArray, List.map_cons, List.map_nil, (F15.eval 136 (by omega)).trans (show _ = viewV (reR r x) from by simp [upd, ee12, ee11, ee14]), (F15.eval 142 (by omega)).trans (show _ = viewV x from by simp [upd, ee12, ee11, ee14])]; simp [go_sem, Act.eval]) (same_any (reR r x) x (({ wr with drawn := wr.drawn + 1 } : World))) ?_
        rintro e9 V ⟨rfl, hbV0⟩
        rw [sameV_re]
        have hbV : Below wr.heap.size wr V := (show Below wr.heap.size wr (({ wr with drawn := wr.drawn + 1 } : World)) from Below.drew (Below.refl _ _)).trans hbV0
        refine ⟨_, rfl, fun F16 => ?_⟩
        have HC2 : (fun wq => VAt wq dg (dgo + i0 * 7) (reR r x) ∧ VAt wq hg (hgo + hm * 7) x) V := ⟨HVD.out.keep (hbV.block _ HVD.out.lt), HVH.out.keep (hbV.block _ HVH.out.lt)⟩
        refine lyp F16 rfl HC2 rfl (by omega) (want_yes F16 rfl (e := 132) rfl (by omega) (show _ = Value.bool false from by simp [upd, ee12, ee11, ee14])) (v := Value.bool false) (fun wr hwr => by simp only [execOp, (F16.eval 143 (by omega)).trans (show _ = Value.bool true from by simp [upd, ee12, ee11, ee14])]; simp [go_sem, Act.eval]) fun F17 => ?_
        refine lyp F17 rfl HC2 rfl (by omega) (wanted_none rfl) (v := Value.bool false) (fun wr hwr => by simp only [execOp, (F17.eval 132 (by omega)).trans (show _ = Value.bool false from by simp [upd, ee12, ee11, ee14]), (F17.eval 144 (by omega)).trans (show _ = Value.bool false from by simp [upd, ee12, ee11, ee14])]; simp [go_sem, Act.eval]) fun F18 => ?_
        refine ⟨fun _ => HC2, ?_⟩
        refine hK _ _ ?_
        clear F0 F1 F2 F3 F4 F5 F6 F7 F8 F9 F10 F11 F12 F13 F14 F15 F16 F17 F18 ee12 ee11 ee14 HCC HC2 hbV0
        simp only [Act.put, List.setIfInBounds_toArray, List.set_cons_succ, List.set_cons_zero]
        have HB9 : Hid (Below Y.heap.size Y V) := HB.out.trans (hbV.mono HB.out.size)
        clear hbV HVD HVH tc0 tcr tcq
        go_wp2_with fail
        go_roundw
        case rel => exact ⟨k + 1, by omega, by rw [HNX.out]; go_num, by go_num, HB9.out⟩
        case measure => simp [intOf]; omega
    · obtain rfl : k = 4 := by omega
      have hDl : (digL Hs r 4).length = D.length := by rw [HDE.out]
      rw [hDl]
      have HSW2 := HSW.out
      obtain ⟨C, hBt, _, _, cs⟩ := HSW2.tg.tk
      obtain ⟨sa, sc, hsv, _⟩ := own_slice HSW2.row
      obtain ⟨v5, w5, hrun, ho5, hg5⟩ := app_one 36 41 (.agg #[.int .i64 0, .slice none 0 0]) 2 32 Try.underlying36 info41 rfl (by decide) (by decide) HSW2.row #[.int .i64 (r : Int), .slice da D.length dc] rfl (fun z hz => by simp at hz; rcases hz with rfl | rfl <;> rfl) (by have := HLS.out; omega) HSW2.low
      have hRD : wr.ownsRow X.heap.size 46 7 (.slice da D.length dc) D.length (flatV D) := row_more HB.out HRO.out
      obtain ⟨hms, hch⟩ := HSW2.send hrn HDM.out (ownsRow_mono hRD (HSX.out.low)) (fun b hb k hk e => by
        have h1 := (ownsRow_lt hRD hb).1
        have h2 := (ownsRow_lt (HSX.out.tg.rows k hk) e).2
        omega) hg5 ho5
      have t33 : w5.cell? ⟨tb, 33, none⟩ = some sv := (World.cell?_of_block (w := wr) (hg5.chg.block tb hBt.lt (row_ne41 HSW2.row hBt (by decide)))).trans ((hBt.cell 33).trans cs)
      have f33 : w5.frozen? ⟨tb, 33, none⟩ = false := (hg5.chg.blk hBt (row_ne41 HSW2.row hBt (by decide))).frozen 33
      have c33 : wr.cell? ⟨tb, 33, none⟩ = some sv := (hBt.cell 33).trans cs
      have HMS : Hid (MS L tb vr vc n (K + 1) hb mb LV hv Hs v5 (ls ++ [(r, .slice da D.length dc, D)]) (w5.setCell ⟨tb, 33, none⟩ v5)) := hms
      have HFB : Hid (Below L w (w5.setCell ⟨tb, 33, none⟩ v5)) := show Below L w (w5.setCell ⟨tb, 33, none⟩ v5) from by
        have h1 : Below w.heap.size w wr := HBX.out.trans ((HBY.out.trans (HB.out.mono HBY.out.size)).mono HBX.out.size)
        have h2 : Below L wr (w5.setCell ⟨tb, 33, none⟩ v5) := hch.below HSW2.low (fun g hg => by
          rcases hg with rfl | hg
          · exact HSW2.tg.lo.1
          · exact (ownsRow_lt HSW2.row hg).1)
        exact (h1.mono HS.out.low).trans h2
      have HRU : Hid (∀ ty, (Builtin.append_ #[36, 36] ty #[sv, .slice (some ⟨wr.heap.size, 0, none⟩) 1 1]).run Try.prog (wr.alloc (.cells #[.int .i64 (r : Int), .slice da D.length dc] 41)) = .ok v5 w5) := hrun
      obtain ⟨s5, c5, hs5, _⟩ := own_slice ho5
      rw [hsv] at c33 t33 HRU
      subst hs5
      clear hrun ho5 hg5 hms hch hRD HSW2 cs hBt hsv hDl
      go_wp2_with (at_builtin; refine wpList_runs rfl _ _ 36 rfl rfl rfl HRU.out ?_)
      go_ret
      exact ⟨by simp, _, _, _, HMS.out, HFB.out⟩
end Go.Proofs.Ytifgmefdlmjocaa
