import Derived.Test.YtgohjkamikpdcaaRD0
namespace Go.Proofs.Ytgohjkamikpdcaa
open Go.RowKit Go.PlainAid
set_option linter.unusedVariables false
set_option linter.unusedSimpArgs false
/-- The reference's three lists. -/
structure RM (L : Nat) (vw vp vr : Value) (ws ps rs : List Int) (w wr : World) : Prop where
  below : Below L w wr
  xw : wr.ownsRow L 3 1 vw ws.length (ws.map I)
  xp : wr.ownsRow L 3 1 vp ps.length (ps.map I)
  xr : wr.ownsRow L 3 1 vr rs.length (rs.map I)
  wp : ∀ g, vw.ownBlock = some g → vp.ownBlock ≠ some g
  wr_ : ∀ g, vw.ownBlock = some g → vr.ownBlock ≠ some g
  pr : ∀ g, vp.ownBlock = some g → vr.ownBlock ≠ some g
  lw : L ≤ w.heap.size
section
variable {L : Nat} {vw vp vr v' : Value} {ws ps rs : List Int} {w wr w2 : World}
theorem RM.le (h : RM L vw vp vr ws ps rs w wr) : L ≤ wr.heap.size := Nat.le_trans h.lw h.below.size
theorem RM.turn (h : RM L vw vp vr ws ps rs w wr) : RM L vp vr vw ps rs ws w wr := ⟨h.below, h.xp, h.xr, h.xw, h.pr, fun g e1 e2 => h.wp g e2 e1, fun g e1 e2 => h.wr_ g e2 e1, h.lw⟩
theorem RM.more (h : RM L vw vp vr ws ps rs w wr) (hb : Below wr.heap.size wr w2) : RM L vw vp vr ws ps rs w w2 :=
  ⟨h.below.trans (hb.mono h.le), ownsRow_same h.xw (fun j hj => hb.block j (ownsRow_lt h.xw hj).2), ownsRow_same h.xp (fun j hj => hb.block j (ownsRow_lt h.xp hj).2), ownsRow_same h.xr (fun j hj => hb.block j (ownsRow_lt h.xr hj).2), h.wp, h.wr_, h.pr, h.lw⟩
/-- One more in the first list. -/
theorem RM.app {z : Int} (h : RM L vw vp vr ws ps rs w wr) (h1 : w2.ownsRow L 3 1 v' (ws.length + 1) ((ws ++ [z]).map I)) (h2 : Grew wr w2 vw v') : RM L v' vp vr (ws ++ [z]) ps rs w w2 := by
  have hne : ∀ {u : Value} {ys : List Int}, wr.ownsRow L 3 1 u ys.length (ys.map I) → (∀ g, vw.ownBlock = some g → u.ownBlock ≠ some g) → w2.ownsRow L 3 1 u ys.length (ys.map I) ∧ ∀ g, v'.ownBlock = some g → u.ownBlock ≠ some g := by
    intro u ys hu ha
    refine ⟨ownsRow_same hu (fun j hj => h2.g.block j (ownsRow_lt hu hj).2 (fun e => ha j e.symm hj)), fun g e1 e2 => ?_⟩
    rcases h2.at' g e1 with e | e
    · exact ha g e e2
    · have := (ownsRow_lt hu e2).2; omega
  obtain ⟨p1, p2⟩ := hne h.xp h.wp
  obtain ⟨r1, r2⟩ := hne h.xr h.wr_
  refine ⟨h.below.trans (h2.below (fun j hj => (ownsRow_lt h.xw hj).1) h.le), by rw [List.length_append]; exact h1, p1, r1, p2, r2, h.pr, h.lw⟩
/-- A number of the first list turned. -/
theorem RM.set {g cap n k : Nat} (h : RM L (.slice (some ⟨g, 0, none⟩) n cap) vp vr ws ps rs w wr) (hn : ws.length = n) (hk : k < n) (z : Int) : RM L (.slice (some ⟨g, 0, none⟩) n cap) vp vr (ws.set k z) ps rs w (wr.setCell ⟨g, k, none⟩ (.int .i64 z)) ∧ wr.frozen? ⟨g, k, none⟩ = false ∧ wr.cell? ⟨g, k, none⟩ = some (.int .i64 (at0 ws k)) := by
  subst hn
  obtain ⟨h1, h2, h3⟩ := own_set h.xw hk z
  have ho : ∀ {u : Value} {ys : List Int}, wr.ownsRow L 3 1 u ys.length (ys.map I) → (∀ g', (Value.slice (some ⟨g, 0, none⟩) ws.length cap).ownBlock = some g' → u.ownBlock ≠ some g') → (wr.setCell ⟨g, k, none⟩ (.int .i64 z)).ownsRow L 3 1 u ys.length (ys.map I) := fun hu ha => ownsRow_same hu (fun j hj => Below.heap_setCell _ _ _ _ (fun e => by subst e; exact ha j rfl hj))
  refine ⟨⟨h.below.setCell (p := ⟨g, k, none⟩) (ownsRow_lt h.xw (g := g) rfl).1 _, by rw [List.length_set]; exact h1, ho h.xp h.wp, ho h.xr h.wr_, h.wp, h.wr_, h.pr, h.lw⟩, h2, h3⟩
/-- The step of an append in a walk. -/
theorem RM.step (h : RM L vw vp vr ws ps rs w wr) (hlen : ws.length ≤ 1000) (z y : Int) (hzy : y = z) {ops : Array Oper} {rest : List Oper} {o : Oper} {a : Act} {Q : Exit → Act → World → Prop} (hgd : o.guard = none) (s x : Operand)
    (ho : o.op = .call { callee := .builtin .append, args := #[s, x], argTypes := #[22, 22] }) (hs : a.eval s = vw) (hx : a.eval x = .slice (some ⟨wr.heap.size, 0, none⟩) 1 1)
    (hh : ∀ vo vc w', Hid (RM L (.slice vo (ws.length + 1) vc) vp vr (ws ++ [z]) ps rs w w') → wpList Try.prog ops Q rest (a.put o.dst (.slice vo (ws.length + 1) vc)) w') : wpList Try.prog ops Q (o :: rest) a (wr.alloc (.cells #[.int .i64 y] 3)) := by
  subst hzy
  refine wpList_appI hgd s x ho L ws.length vw ws hs h.xw y hx rfl (by omega) h.le ?_
  intro v2 w2 h1 h2 _
  obtain ⟨vo, vc, rfl, _⟩ := own_slice h1
  exact hh vo vc w2 (h.app h1 h2)
end
theorem sum_zero {ws : List Int} (h : ∀ j, j < ws.length → 0 ≤ at0 ws j) (hs : ws.sum = 0) (j : Nat) (hj : j < ws.length) : at0 ws j = 0 := by
  apply Classical.byContradiction
  intro hne
  have := sum_pos (l := ws) (fun z hz => by obtain ⟨i, hi, rfl⟩ := mem_at0 hz; exact h i hi) hj (by have := h j hj; omega)
  omega
theorem sum_rep (n : Nat) (c : Int) : (List.replicate n c).sum = n * c := by
  induction n with
  | zero => simp
  | succ n ih => rw [List.replicate_succ, List.sum_cons, ih]; simp only [Int.natCast_add, Int.natCast_one, Int.add_mul]; omega
def tq (total S : Int) (k : Nat) (cs : List Int) : List Int := (cs.take k).map fun z => total * z / S
def tr (total S : Int) (k : Nat) (cs : List Int) : List Int := (cs.take k).map fun z => total * z % S
theorem tq_succ {total S : Int} {k : Nat} {cs : List Int} (h : k < cs.length) : tq total S (k + 1) cs = tq total S k cs ++ [total * at0 cs k / S] := by
  unfold tq; rw [take_snoc cs k h, List.map_append, at0_lt h]; rfl
theorem tr_succ {total S : Int} {k : Nat} {cs : List Int} (h : k < cs.length) : tr total S (k + 1) cs = tr total S k cs ++ [total * at0 cs k % S] := by
  unfold tr; rw [take_snoc cs k h, List.map_append, at0_lt h]; rfl
set_option maxRecDepth 100000 in
set_option maxHeartbeats 6400000 in
theorem rdeal_ok {b off n c : Nat} {ws : List Int} (total : Int) (ht0 : 0 ≤ total) (ht1 : total ≤ 1099511627776) (w : World) (hl : ws.length = n) (hx : FromI w (some ⟨b, off, none⟩) ws) (hr : rightW ws = true) :
    Calls Try.prog 22 #[.int .i64 total, .slice (some ⟨b, off, none⟩) n c] w fun r w' => ∃ v, r = .returned (.tuple #[v, .int .i64 0]) ∧ w'.ownsRow w.heap.size 3 1 v n ((dealG total (cnt ws)).map I) ∧ Below w.heap.size w w' := by
  have hC := cnt_ok hr
  rw [hl] at hC
  obtain ⟨cs, hcs⟩ : ∃ cs, cnt ws = cs := ⟨_, rfl⟩
  rw [hcs] at hC ⊢
  have hrc := rright_any (c := c) w hl hx (by unfold maxLen; have := hC.le; omega)
  rw [hr] at hrc
  have hok : ∀ j, j < n → 0 ≤ at0 ws j ∧ at0 ws j ≤ 1048576 := fun j hj => by
    unfold rightW at hr
    simp only [Bool.and_eq_true] at hr
    exact okW_at hr.2 (by omega)
  have hp := hC.pos
  have hle := hC.le
  have hsb : ∀ k, 0 ≤ (ws.take k).sum ∧ (ws.take k).sum ≤ 16777216 := fun k => by
    have := sum_bound (ws.take k) 1048576 (fun z hz => by obtain ⟨j, hj, rfl⟩ := mem_at0 (List.mem_of_mem_take hz); exact hok j (by omega))
    simp only [List.length_take] at this
    omega
  have HX : Hid (FromI w (some ⟨b, off, none⟩) ws) := hx
  have HC : Hid (Cnt cs n) := hC
  have HCS : Hid (cnt ws = cs) := hcs
  have HOK : Hid _ := hok
  have HSB : Hid _ := hsb
  clear hx hC hr hok hsb hcs
  obtain ⟨L, hL⟩ : ∃ L, L = w.heap.size := ⟨_, rfl⟩
  rw [← hL]
  have hnt0 : ¬ total < 0 := by omega
  have hnt1 : ¬ 1099511627776 < total := by omega
  have hR0 : RM L (.slice none 0 0) (.slice none 0 0) (.slice none 0 0) [] [] [] w w := ⟨Below.refl _ _, World.ownsRow_nil _ _ _ _, World.ownsRow_nil _ _ _ _, World.ownsRow_nil _ _ _ _, (fun g h => by cases h), (fun g h => by cases h), (fun g h => by cases h), by omega⟩
  have HR0 : Hid _ := hR0
  have HL : Hid _ := hL
  clear hR0 hL
  go_enter Try.func22, Try.ntmps22
  go_wp2_with (first
    | (go_at_call 39; refine hrc.mono ?_; rintro e w' ⟨rfl, hw⟩; have hw2 := hw.symm; subst hw2; clear hw hrc)
    | fail)
  go_loopw [6, 7, 8] (fun vw sv i wr => ∃ k : Nat, k ≤ n ∧ i = .int .i64 k ∧ sv = .int .i64 (ws.take k).sum ∧ Hid (RM L vw (.slice none 0 0) (.slice none 0 0) (ws.take k) [] [] w wr)) (fun _ _ i _ => n - (intOf i).toNat)
  case atStart => exact ⟨0, Nat.zero_le _, rfl, by simp, HR0⟩
  case round =>
    clear HR0
    obtain ⟨k, hk, rfl, rfl, HW⟩ := hrel
    have hlw : (ws.take k).length = k := by simp; omega
    have hW := HW.out
    obtain ⟨wo, wc, hvw, _⟩ := own_slice hW.xw
    subst hvw
    rw [hlw] at hW ⊢
    clear HW
    have HW : Hid _ := hW
    clear hW
    by_cases hlt : k < n
    · obtain ⟨_, _, e0, e1⟩ := FromI.at (k := k) (HX.out.all (by have := HW.out.below; rw [HL.out] at this; exact this)) (by omega)
      cases e0
      have hs := sum_take_succ ws k (by omega)
      have h1 := HSB.out k
      have h2 := HSB.out (k + 1)
      rw [hs] at h2
      have htk : ws.take (k + 1) = ws.take k ++ [at0 ws k] := by rw [take_snoc ws k (by omega), at0_lt (by omega)]
      have hfr : ∀ {v' : Value} {a : List Int} {w' : World}, RM L v' (.slice none 0 0) (.slice none 0 0) a [] [] w w' → w'.cell? ⟨b, off + k, none⟩ = some (.int .i64 (at0 ws k)) := fun h => by
        obtain ⟨_, _, e0, e1⟩ := FromI.at (k := k) (HX.out.all (by have := h.below; rw [HL.out] at this; exact this)) (by omega)
        cases e0
        exact e1
      have HFR : Hid _ := @hfr
      have HS : Hid _ := hs
      have HTK : Hid _ := htk
      clear hs htk hfr
      generalize (ws.take k).sum = sk at h1 h2 HS
      generalize at0 ws k = z at *
      go_wp2_with (first
        | (at_builtin; go_must (refine RM.step HW.out (by rw [hlw]; omega) z _ rfl rfl _ _ rfl (by first | rfl | (rw [hlw]; rfl)) rfl ?_))
        | fail)
      intro vo1 vc1 w1 H1
      try rw [hlw] at H1
      try rw [hlw]
      have e2 := HFR.out H1.out
      clear e1 HW
      go_wp2
      go_roundw
      case rel => exact ⟨k + 1, by omega, by go_num, by rw [HS.out], by rw [HTK.out]; exact H1⟩
      case measure => simp [intOf]; omega
    · obtain rfl : n = k := by omega
      have htw : ws.take n = ws := List.take_of_length_le (by omega)
      have hW := HW.out
      rw [htw] at hW ⊢
      clear hlw HW
      have hsb := HSB.out n
      rw [htw] at hsb
      have hxw := hW.xw
      rw [hl] at hxw
      obtain ⟨gw, cw, hvv, hcw, hcm, hLg, hgs, _⟩ := own_form hxw hp
      have HW : Hid _ := hW
      clear hW hxw
      cases hvv
      by_cases hz : ws.sum = 0
      · have hall := fun j (hj : j < n) => sum_zero (ws := ws) (fun j hj => (HOK.out j (by omega)).1) hz j (by omega)
        have hcz : cs = List.replicate n 1 := by rw [← HCS.out]; exact cnt_zero hl hall
        rw [hz]
        have HCZ : Hid _ := hcz
        clear hz hall hcz
        go_wp2
        go_loopw [9] (fun i wr => ∃ k : Nat, k ≤ n ∧ i = .int .i64 k ∧ Hid (RM L (.slice (some ⟨gw, 0, none⟩) n wc) (.slice none 0 0) (.slice none 0 0) (fillTo 1 k ws) [] [] w wr)) (fun i _ => n - (intOf i).toNat)
        case atStart => exact ⟨0, Nat.zero_le _, rfl, by rw [fillTo_zero]; exact HW⟩
        case round =>
          clear HW
          obtain ⟨k, hk, rfl, HW⟩ := hrel
          by_cases hlt : k < n
          · obtain ⟨hs, hfz, hcl⟩ := HW.out.set (by rw [fillTo_length (by omega)]; exact hl) hlt 1
            rw [fillTo_set (by omega)] at hs
            have HS : Hid _ := hs
            clear hs
            go_wp2
            go_roundw
            case rel => exact ⟨k + 1, by omega, by go_num, HS⟩
            case measure => simp [intOf]; omega
          · obtain rfl : n = k := by omega
            rw [fillTo_all hl, ← HCZ.out] at HW
            have hcl := HC.out.len
            have hS : cs.sum = n := by rw [HCZ.out, sum_rep]; omega
            have hsp : (0 : Int) < n := by omega
            have HSS : Hid (cs.sum = (n : Int)) := hS
            clear hS HCZ HOK HSB HCS HX
            go_wp2
            go_loopw [10, 11, 12, 13] (fun vp vr lv i wr => ∃ k : Nat, k ≤ n ∧ i = .int .i64 k ∧ lv = .int .i64 (total - ((cs.take k).map fun z => total * z / (n : Int)).sum) ∧ Hid (RM L (.slice (some ⟨gw, 0, none⟩) n wc) vp vr cs (tq total (n : Int) k cs) (tr total (n : Int) k cs) w wr)) (fun _ _ _ i _ => n - (intOf i).toNat)
            case atStart => exact ⟨0, Nat.zero_le _, rfl, by simp, HW⟩
            case round =>
              clear HW
              obtain ⟨k, hk, rfl, rfl, HW⟩ := hrel
              have hlp : (tq total (n : Int) k cs).length = k := by simp [tq]; omega
              have hlr : (tr total (n : Int) k cs).length = k := by simp [tr]; omega
              have hW := HW.out
              obtain ⟨po, pc, hvp, _⟩ := own_slice hW.xp
              obtain ⟨ro, rc, hvr, _⟩ := own_slice hW.xr
              subst hvp hvr
              rw [hlp, hlr] at hW ⊢
              clear HW
              have HW : Hid _ := hW
              clear hW
              by_cases hlt : k < n
              · have e1 : wr.cell? ⟨gw, k, none⟩ = some (.int .i64 (at0 cs k)) := own_at (by have := HW.out.xw; rw [hcl] at this; exact this) hlt
                obtain ⟨hp0, hp1⟩ := HC.out.ok k hlt
                obtain ⟨hm0, hm1⟩ := prod_range ht0 ht1 hp0 hp1
                have hq1 : Int.tdiv (total * at0 cs k) (n : Int) = total * at0 cs k / (n : Int) := Int.tdiv_eq_ediv_of_nonneg hm0
                have hr1 : Int.tmod (total * at0 cs k) (n : Int) = total * at0 cs k % (n : Int) := Int.tmod_eq_emod_of_nonneg hm0
                have hq2 : 0 ≤ total * at0 cs k / (n : Int) := Int.ediv_nonneg hm0 (Int.le_of_lt hsp)
                have hq3 : total * at0 cs k / (n : Int) ≤ total * at0 cs k := Int.ediv_le_self _ hm0
                have hr2 := rest_range (total := total) hsp (at0 cs k)
                have hlk := left_take HC.out HSS.out ht0 k
                have hlk1 := left_take HC.out HSS.out ht0 (k + 1)
                have hs : ((cs.take (k + 1)).map fun z => total * z / (n : Int)).sum = ((cs.take k).map fun z => total * z / (n : Int)).sum + total * at0 cs k / (n : Int) := by
                  rw [take_snoc cs k (by omega), List.map_append, List.sum_append, at0_lt (by omega)]
                  simp
                have htq := tq_succ (total := total) (S := (n : Int)) (cs := cs) (k := k) (by omega)
                have htr := tr_succ (total := total) (S := (n : Int)) (cs := cs) (k := k) (by omega)
                rw [hs] at hlk1
                have HS : Hid _ := hs
                have HTQ : Hid _ := htq
                have HTR : Hid _ := htr
                have hcw : ∀ {vp' vr' : Value} {a b : List Int} {w' : World}, RM L (.slice (some ⟨gw, 0, none⟩) n wc) vp' vr' cs a b w w' → w'.cell? ⟨gw, k, none⟩ = some (.int .i64 (at0 cs k)) := fun h => own_at (by have := h.xw; rw [hcl] at this; exact this) hlt
                have HCW : Hid _ := @hcw
                clear hs htq htr hcw
                generalize ((cs.take k).map fun z => total * z / (n : Int)).sum = sk at hlk hlk1 HS
                generalize at0 cs k = z at *
                have hSne : (n : Int) ≠ 0 := by omega
                have hwm : IntKind.i64.wrap (total * z) = total * z := by rw [IntKind.wrap_i64]; omega
                have hwq : IntKind.i64.wrap (total * z / (n : Int)) = total * z / (n : Int) := by rw [IntKind.wrap_i64]; omega
                have hwr : IntKind.i64.wrap (total * z % (n : Int)) = total * z % (n : Int) := by rw [IntKind.wrap_i64]; omega
                go_wp2_with (first
                  | (at_builtin; go_must (refine RM.step HW.out.turn (by rw [hlp]; omega) (total * z / (n : Int)) _ rfl rfl _ _ rfl (by first | rfl | (rw [hlp]; rfl)) rfl ?_))
                  | fail)
                intro vo1 vc1 w1 H1
                try rw [hlp] at H1
                try rw [hlp]
                have e2 := HCW.out H1.out.turn.turn
                clear e1 HW
                go_wp2_with (first
                  | (at_builtin; go_must (refine RM.step H1.out.turn (by rw [hlr]; omega) (total * z % (n : Int)) _ rfl rfl _ _ rfl (by first | rfl | (rw [hlr]; rfl)) rfl ?_))
                  | fail)
                intro vo2 vc2 w2 H2
                try rw [hlr] at H2
                try rw [hlr]
                have e3 := HCW.out H2.out.turn
                clear e2 H1
                go_wp2
                go_roundw
                case rel => exact ⟨k + 1, by omega, by go_num, by rw [HS.out]; go_num, by rw [HTQ.out, HTR.out]; exact H2.out.turn⟩
                case measure => simp [intOf]; omega
              · obtain rfl : n = k := by omega
                have hW := HW.out
                rw [show tq total (n : Int) n cs = parts0 total cs by unfold tq parts0; rw [HSS.out, List.take_of_length_le (by omega)], show tr total (n : Int) n cs = rests0 total cs by unfold tr rests0; rw [HSS.out, List.take_of_length_le (by omega)]] at hW
                have hlf : total - ((cs.take n).map fun z => total * z / (n : Int)).sum = leftOf total cs := by unfold leftOf parts0; rw [HSS.out, List.take_of_length_le (by omega)]
                rw [hlf]
                have hlb := left_bounds total cs HC.out.sum
                rw [hcl] at hlb
                have hrl : (rests0 total cs).length = n := by simp [rests0, hcl]
                have hpl : (parts0 total cs).length = n := by simp [parts0, hcl]
                have hol := ord_length (rests0 total cs)
                have hdef : dealG total cs = bump (parts0 total cs) ((ord (rests0 total cs)).take (leftOf total cs).toNat) := rfl
                obtain ⟨m, hm⟩ : ∃ m : Nat, leftOf total cs = m := ⟨(leftOf total cs).toNat, by omega⟩
                rw [hm] at hlb hdef ⊢
                rw [Int.toNat_natCast] at hdef
                have hpb : ∀ j, j < n → 0 ≤ at0 (parts0 total cs) j ∧ at0 (parts0 total cs) j ≤ 1152921504606846976 := fun j hj => by
                  unfold parts0
                  rw [at0_map _ (by omega)]
                  obtain ⟨hp0, hp1⟩ := HC.out.ok j hj
                  obtain ⟨hm0, hm1⟩ := prod_range ht0 ht1 hp0 hp1
                  exact ⟨Int.ediv_nonneg hm0 (Int.le_of_lt HC.out.sum), Int.le_trans (Int.ediv_le_self _ hm0) hm1⟩
                have hr0 : ∀ i, i < (rests0 total cs).length → 0 ≤ at0 (rests0 total cs) i := fun i hi => by
                  unfold rests0 at hi ⊢
                  rw [at0_map _ (by simpa using hi)]
                  exact (rest_range HC.out.sum _).1
                have homem : ∀ j, j ∈ ord (rests0 total cs) → j < n := fun j hj => by rw [← hrl]; exact ord_mem.mp hj
                have hxp := hW.xp
                have hxr := hW.xr
                rw [hpl] at hxp
                rw [hrl] at hxr
                obtain ⟨gp, cp, hvp2, _, _, _, _, _⟩ := own_form hxp hp
                obtain ⟨gr, cr, hvr2, _, _, _, _, _⟩ := own_form hxr hp
                cases hvp2
                cases hvr2
                have HDEF : Hid _ := hdef
                have HPB : Hid _ := hpb
                have HR0' : Hid _ := hr0
                have HOM : Hid _ := homem
                have HON : Hid _ := ord_nodup (rests0 total cs)
                have HWW : Hid _ := hW
                clear hlf HW hdef hpb hr0 homem hW hxp hxr
                have hmn : m ≤ n := by omega
                rw [hrl] at hol
                go_wp2
                go_loopw [12] (fun lv wr => ∃ k : Nat, k ≤ m ∧ lv = .int .i64 ((m : Int) - k) ∧ Hid (RM L (.slice (some ⟨gw, 0, none⟩) n wc) (.slice (some ⟨gp, 0, none⟩) n pc) (.slice (some ⟨gr, 0, none⟩) n rc) cs (bump (parts0 total cs) ((ord (rests0 total cs)).take k)) (mark (rests0 total cs) ((ord (rests0 total cs)).take k)) w wr)) (fun lv _ => (intOf lv).toNat)
                case atStart => exact ⟨0, Nat.zero_le _, by simp, HWW⟩
                case round =>
                  clear HWW
                  obtain ⟨k, hk, rfl, HE⟩ := hrel
                  by_cases hlt : k < m
                  · have hkm : (0 : Int) < (m : Int) - k := by omega
                    have hml : (mark (rests0 total cs) ((ord (rests0 total cs)).take k)).length = n := by rw [mark_length]; exact hrl
                    go_wp2
                    go_loopw [14, 15] (fun bv i wr2 => ∃ j bb q : Nat, j ≤ n ∧ i = .int .i64 j ∧ bv = .int .i64 (bb : Int) ∧ Hid (Best (mark (rests0 total cs) ((ord (rests0 total cs)).take k)) j bb) ∧ wr2 = wr.drewN q) (fun _ i _ => n - (intOf i).toNat)
                    case atStart => exact ⟨0, 0, 0, Nat.zero_le _, rfl, rfl, Best.zero (by omega), rfl⟩
                    case round =>
                      obtain ⟨j, bb, q, hj, rfl, rfl, HBB, rfl⟩ := hrel
                      have hbb : bb < n := by have := HBB.out.lt; omega
                      by_cases hjn : j < n
                      · have hxr : wr.ownsRow L 3 1 (.slice (some ⟨gr, 0, none⟩) n rc) n ((mark (rests0 total cs) ((ord (rests0 total cs)).take k)).map I) := by have := HE.out.xr; rw [hml] at this; exact this
                        have e1 := own_at hxr hjn
                        have e2 := own_at hxr hbb
                        have f1 : (wr.drewN q).cell? ⟨gr, j, none⟩ = _ := e1
                        have f2 : (wr.drewN q).cell? ⟨gr, bb, none⟩ = _ := e2
                        have hy := fun h => HBB.out.yes (by omega) h
                        have hno := fun h => HBB.out.no (k := j) (by omega) h
                        have HY : Hid _ := hy
                        have HNO : Hid _ := hno
                        clear hxr hy hno
                        generalize at0 (mark (rests0 total cs) ((ord (rests0 total cs)).take k)) j = zj at *
                        generalize at0 (mark (rests0 total cs) ((ord (rests0 total cs)).take k)) bb = zb at *
                        by_cases hz : zb < zj
                        · have HB2 : Hid _ := HY.out hz
                          clear HY HNO HBB
                          go_wp2
                          go_quiet (fail)
                          go_wp2
                          go_roundw
                          case rel => exact ⟨j + 1, j, _, by omega, by go_num, rfl, HB2, rfl⟩
                          case measure => simp [intOf]; omega
                        · have HB2 : Hid _ := HNO.out hz
                          clear HY HNO HBB
                          go_wp2
                          go_quiet (fail)
                          go_wp2
                          go_roundw
                          case rel => exact ⟨j + 1, bb, _, by omega, by go_num, rfl, HB2, rfl⟩
                          case measure => simp [intOf]; omega
                      · obtain rfl : n = j := by omega
                        have hkn : k < (ord (rests0 total cs)).length := by omega
                        have hbe := best_is HR0'.out k hkn bb (by rw [hrl]; exact HBB.out)
                        have htk : (ord (rests0 total cs)).take (k + 1) = (ord (rests0 total cs)).take k ++ [bb] := by rw [take_snoc _ k hkn, ← hbe]
                        have hbs := bump_snoc (parts0 total cs) ((ord (rests0 total cs)).take k) bb
                        have hms := mark_snoc (rests0 total cs) ((ord (rests0 total cs)).take k) bb
                        rw [← htk] at hbs hms
                        have hv := bump_at (parts0 total cs) ((ord (rests0 total cs)).take k) (List.Nodup.sublist (List.take_sublist _ _) HON.out) (fun a ha => by rw [hpl]; exact HOM.out a (List.mem_of_mem_take ha)) bb
                        have hb2 := HPB.out bb hbb
                        have hvb : 0 ≤ at0 (bump (parts0 total cs) ((ord (rests0 total cs)).take k)) bb ∧ at0 (bump (parts0 total cs) ((ord (rests0 total cs)).take k)) bb ≤ 1152921504606846977 := by
                          rw [hv]
                          split <;> omega
                        have hbl : (bump (parts0 total cs) ((ord (rests0 total cs)).take k)).length = n := by rw [bump_length]; exact hpl
                        have hE1 : RM L (.slice (some ⟨gw, 0, none⟩) n wc) (.slice (some ⟨gp, 0, none⟩) n pc) (.slice (some ⟨gr, 0, none⟩) n rc) cs (bump (parts0 total cs) ((ord (rests0 total cs)).take k)) (mark (rests0 total cs) ((ord (rests0 total cs)).take k)) w (wr.drewN q) := HE.out.more (below_drewN (Below.refl _ _) q)
                        obtain ⟨D1, f1, c1⟩ := hE1.turn.set hbl hbb (at0 (bump (parts0 total cs) ((ord (rests0 total cs)).take k)) bb + 1)
                        obtain ⟨D2, f2, c2⟩ := D1.turn.set hml hbb (-1)
                        rw [← hbs, ← hms] at D2
                        have HD2 : Hid _ := D2.turn
                        clear D1 D2 hE1 HE HBB hbe htk hbs hms hv hb2
                        generalize at0 (bump (parts0 total cs) ((ord (rests0 total cs)).take k)) bb = x at *
                        generalize at0 (mark (rests0 total cs) ((ord (rests0 total cs)).take k)) bb = y at *
                        go_wp2
                        go_roundw
                        case rel => exact ⟨k + 1, by omega, by go_num, HD2⟩
                        case measure => simp [intOf]; omega
                  · obtain rfl : m = k := by omega
                    go_wp2
                    go_ret2
                    refine ⟨_, rfl, ?_, by have := HE.out.below; exact this⟩
                    rw [HDEF.out]
                    have := HE.out.xp
                    rw [bump_length, hpl] at this
                    exact this
      · have hcz : ws = cs := by
          have : ∃ j, j < ws.length ∧ at0 ws j ≠ 0 := Classical.byContradiction fun hne => hz (by
            have hall : ws = List.replicate n 0 := ext_at0 (by simpa using hl) fun i hi => by
              rw [at0_lt (l := List.replicate n 0) (by simp; omega)]
              simp
              exact Classical.byContradiction fun h => hne ⟨i, hi, h⟩
            rw [hall, sum_rep]; omega)
          obtain ⟨j, hj, hne⟩ := this
          rw [← HCS.out]
          exact (cnt_some hj hne).symm
        have hzb : (ws.sum == 0) = false := by simpa using hz
        have hcl := HC.out.len
        have hsp := HC.out.sum
        have hW2 := HW.out
        rw [hcz] at hW2 hzb hsb ⊢
        clear HW
        have HW : Hid _ := hW2
        obtain ⟨S, hS⟩ : ∃ S, cs.sum = S := ⟨_, rfl⟩
        rw [hS] at hsp hzb hsb ⊢
        have HSS : Hid (cs.sum = S) := hS
        clear hS hcz HOK HSB HCS HX hz hW2
        go_wp2
        go_loopw [10, 11, 12, 13] (fun vp vr lv i wr => ∃ k : Nat, k ≤ n ∧ i = .int .i64 k ∧ lv = .int .i64 (total - ((cs.take k).map fun z => total * z / S).sum) ∧ Hid (RM L (.slice (some ⟨gw, 0, none⟩) n wc) vp vr cs (tq total S k cs) (tr total S k cs) w wr)) (fun _ _ _ i _ => n - (intOf i).toNat)
        case atStart => exact ⟨0, Nat.zero_le _, rfl, by simp, HW⟩
        case round =>
          clear HW
          obtain ⟨k, hk, rfl, rfl, HW⟩ := hrel
          have hlp : (tq total S k cs).length = k := by simp [tq]; omega
          have hlr : (tr total S k cs).length = k := by simp [tr]; omega
          have hW := HW.out
          obtain ⟨po, pc, hvp, _⟩ := own_slice hW.xp
          obtain ⟨ro, rc, hvr, _⟩ := own_slice hW.xr
          subst hvp hvr
          rw [hlp, hlr] at hW ⊢
          clear HW
          have HW : Hid _ := hW
          clear hW
          by_cases hlt : k < n
          · have e1 : wr.cell? ⟨gw, k, none⟩ = some (.int .i64 (at0 cs k)) := own_at (by have := HW.out.xw; rw [hcl] at this; exact this) hlt
            obtain ⟨hp0, hp1⟩ := HC.out.ok k hlt
            obtain ⟨hm0, hm1⟩ := prod_range ht0 ht1 hp0 hp1
            have hq1 : Int.tdiv (total * at0 cs k) S = total * at0 cs k / S := Int.tdiv_eq_ediv_of_nonneg hm0
            have hr1 : Int.tmod (total * at0 cs k) S = total * at0 cs k % S := Int.tmod_eq_emod_of_nonneg hm0
            have hq2 : 0 ≤ total * at0 cs k / S := Int.ediv_nonneg hm0 (Int.le_of_lt hsp)
            have hq3 : total * at0 cs k / S ≤ total * at0 cs k := Int.ediv_le_self _ hm0
            have hr2 := rest_range (total := total) hsp (at0 cs k)
            have hlk := left_take HC.out HSS.out ht0 k
            have hlk1 := left_take HC.out HSS.out ht0 (k + 1)
            have hs : ((cs.take (k + 1)).map fun z => total * z / S).sum = ((cs.take k).map fun z => total * z / S).sum + total * at0 cs k / S := by
              rw [take_snoc cs k (by omega), List.map_append, List.sum_append, at0_lt (by omega)]
              simp
            have htq := tq_succ (total := total) (S := S) (cs := cs) (k := k) (by omega)
            have htr := tr_succ (total := total) (S := S) (cs := cs) (k := k) (by omega)
            rw [hs] at hlk1
            have HS : Hid _ := hs
            have HTQ : Hid _ := htq
            have HTR : Hid _ := htr
            have hcw : ∀ {vp' vr' : Value} {a b : List Int} {w' : World}, RM L (.slice (some ⟨gw, 0, none⟩) n wc) vp' vr' cs a b w w' → w'.cell? ⟨gw, k, none⟩ = some (.int .i64 (at0 cs k)) := fun h => own_at (by have := h.xw; rw [hcl] at this; exact this) hlt
            have HCW : Hid _ := @hcw
            clear hs htq htr hcw
            generalize ((cs.take k).map fun z => total * z / S).sum = sk at hlk hlk1 HS
            generalize at0 cs k = z at *
            have hSne : S ≠ 0 := by omega
            have hwm : IntKind.i64.wrap (total * z) = total * z := by rw [IntKind.wrap_i64]; omega
            have hwq : IntKind.i64.wrap (total * z / S) = total * z / S := by rw [IntKind.wrap_i64]; omega
            have hwr : IntKind.i64.wrap (total * z % S) = total * z % S := by rw [IntKind.wrap_i64]; omega
            go_wp2_with (first
              | (at_builtin; go_must (refine RM.step HW.out.turn (by rw [hlp]; omega) (total * z / S) _ rfl rfl _ _ rfl (by first | rfl | (rw [hlp]; rfl)) rfl ?_))
              | fail)
            intro vo1 vc1 w1 H1
            try rw [hlp] at H1
            try rw [hlp]
            have e2 := HCW.out H1.out.turn.turn
            clear e1 HW
            go_wp2_with (first
              | (at_builtin; go_must (refine RM.step H1.out.turn (by rw [hlr]; omega) (total * z % S) _ rfl rfl _ _ rfl (by first | rfl | (rw [hlr]; rfl)) rfl ?_))
              | fail)
            intro vo2 vc2 w2 H2
            try rw [hlr] at H2
            try rw [hlr]
            have e3 := HCW.out H2.out.turn
            clear e2 H1
            go_wp2
            go_roundw
            case rel => exact ⟨k + 1, by omega, by go_num, by rw [HS.out]; go_num, by rw [HTQ.out, HTR.out]; exact H2.out.turn⟩
            case measure => simp [intOf]; omega
          · obtain rfl : n = k := by omega
            have hW := HW.out
            rw [show tq total S n cs = parts0 total cs by unfold tq parts0; rw [HSS.out, List.take_of_length_le (by omega)], show tr total S n cs = rests0 total cs by unfold tr rests0; rw [HSS.out, List.take_of_length_le (by omega)]] at hW
            have hlf : total - ((cs.take n).map fun z => total * z / S).sum = leftOf total cs := by unfold leftOf parts0; rw [HSS.out, List.take_of_length_le (by omega)]
            rw [hlf]
            have hlb := left_bounds total cs HC.out.sum
            rw [hcl] at hlb
            have hrl : (rests0 total cs).length = n := by simp [rests0, hcl]
            have hpl : (parts0 total cs).length = n := by simp [parts0, hcl]
            have hol := ord_length (rests0 total cs)
            have hdef : dealG total cs = bump (parts0 total cs) ((ord (rests0 total cs)).take (leftOf total cs).toNat) := rfl
            obtain ⟨m, hm⟩ : ∃ m : Nat, leftOf total cs = m := ⟨(leftOf total cs).toNat, by omega⟩
            rw [hm] at hlb hdef ⊢
            rw [Int.toNat_natCast] at hdef
            have hpb : ∀ j, j < n → 0 ≤ at0 (parts0 total cs) j ∧ at0 (parts0 total cs) j ≤ 1152921504606846976 := fun j hj => by
              unfold parts0
              rw [at0_map _ (by omega)]
              obtain ⟨hp0, hp1⟩ := HC.out.ok j hj
              obtain ⟨hm0, hm1⟩ := prod_range ht0 ht1 hp0 hp1
              exact ⟨Int.ediv_nonneg hm0 (Int.le_of_lt HC.out.sum), Int.le_trans (Int.ediv_le_self _ hm0) hm1⟩
            have hr0 : ∀ i, i < (rests0 total cs).length → 0 ≤ at0 (rests0 total cs) i := fun i hi => by
              unfold rests0 at hi ⊢
              rw [at0_map _ (by simpa using hi)]
              exact (rest_range HC.out.sum _).1
            have homem : ∀ j, j ∈ ord (rests0 total cs) → j < n := fun j hj => by rw [← hrl]; exact ord_mem.mp hj
            have hxp := hW.xp
            have hxr := hW.xr
            rw [hpl] at hxp
            rw [hrl] at hxr
            obtain ⟨gp, cp, hvp2, _, _, _, _, _⟩ := own_form hxp hp
            obtain ⟨gr, cr, hvr2, _, _, _, _, _⟩ := own_form hxr hp
            cases hvp2
            cases hvr2
            have HDEF : Hid _ := hdef
            have HPB : Hid _ := hpb
            have HR0' : Hid _ := hr0
            have HOM : Hid _ := homem
            have HON : Hid _ := ord_nodup (rests0 total cs)
            have HWW : Hid _ := hW
            clear hlf HW hdef hpb hr0 homem hW hxp hxr
            have hmn : m ≤ n := by omega
            rw [hrl] at hol
            go_wp2
            go_loopw [12] (fun lv wr => ∃ k : Nat, k ≤ m ∧ lv = .int .i64 ((m : Int) - k) ∧ Hid (RM L (.slice (some ⟨gw, 0, none⟩) n wc) (.slice (some ⟨gp, 0, none⟩) n pc) (.slice (some ⟨gr, 0, none⟩) n rc) cs (bump (parts0 total cs) ((ord (rests0 total cs)).take k)) (mark (rests0 total cs) ((ord (rests0 total cs)).take k)) w wr)) (fun lv _ => (intOf lv).toNat)
            case atStart => exact ⟨0, Nat.zero_le _, by simp, HWW⟩
            case round =>
              clear HWW
              obtain ⟨k, hk, rfl, HE⟩ := hrel
              by_cases hlt : k < m
              · have hkm : (0 : Int) < (m : Int) - k := by omega
                have hml : (mark (rests0 total cs) ((ord (rests0 total cs)).take k)).length = n := by rw [mark_length]; exact hrl
                go_wp2
                go_loopw [14, 15] (fun bv i wr2 => ∃ j bb q : Nat, j ≤ n ∧ i = .int .i64 j ∧ bv = .int .i64 (bb : Int) ∧ Hid (Best (mark (rests0 total cs) ((ord (rests0 total cs)).take k)) j bb) ∧ wr2 = wr.drewN q) (fun _ i _ => n - (intOf i).toNat)
                case atStart => exact ⟨0, 0, 0, Nat.zero_le _, rfl, rfl, Best.zero (by omega), rfl⟩
                case round =>
                  obtain ⟨j, bb, q, hj, rfl, rfl, HBB, rfl⟩ := hrel
                  have hbb : bb < n := by have := HBB.out.lt; omega
                  by_cases hjn : j < n
                  · have hxr : wr.ownsRow L 3 1 (.slice (some ⟨gr, 0, none⟩) n rc) n ((mark (rests0 total cs) ((ord (rests0 total cs)).take k)).map I) := by have := HE.out.xr; rw [hml] at this; exact this
                    have e1 := own_at hxr hjn
                    have e2 := own_at hxr hbb
                    have f1 : (wr.drewN q).cell? ⟨gr, j, none⟩ = _ := e1
                    have f2 : (wr.drewN q).cell? ⟨gr, bb, none⟩ = _ := e2
                    have hy := fun h => HBB.out.yes (by omega) h
                    have hno := fun h => HBB.out.no (k := j) (by omega) h
                    have HY : Hid _ := hy
                    have HNO : Hid _ := hno
                    clear hxr hy hno
                    generalize at0 (mark (rests0 total cs) ((ord (rests0 total cs)).take k)) j = zj at *
                    generalize at0 (mark (rests0 total cs) ((ord (rests0 total cs)).take k)) bb = zb at *
                    by_cases hz : zb < zj
                    · have HB2 : Hid _ := HY.out hz
                      clear HY HNO HBB
                      go_wp2
                      go_quiet (fail)
                      go_wp2
                      go_roundw
                      case rel => exact ⟨j + 1, j, _, by omega, by go_num, rfl, HB2, rfl⟩
                      case measure => simp [intOf]; omega
                    · have HB2 : Hid _ := HNO.out hz
                      clear HY HNO HBB
                      go_wp2
                      go_quiet (fail)
                      go_wp2
                      go_roundw
                      case rel => exact ⟨j + 1, bb, _, by omega, by go_num, rfl, HB2, rfl⟩
                      case measure => simp [intOf]; omega
                  · obtain rfl : n = j := by omega
                    have hkn : k < (ord (rests0 total cs)).length := by omega
                    have hbe := best_is HR0'.out k hkn bb (by rw [hrl]; exact HBB.out)
                    have htk : (ord (rests0 total cs)).take (k + 1) = (ord (rests0 total cs)).take k ++ [bb] := by rw [take_snoc _ k hkn, ← hbe]
                    have hbs := bump_snoc (parts0 total cs) ((ord (rests0 total cs)).take k) bb
                    have hms := mark_snoc (rests0 total cs) ((ord (rests0 total cs)).take k) bb
                    rw [← htk] at hbs hms
                    have hv := bump_at (parts0 total cs) ((ord (rests0 total cs)).take k) (List.Nodup.sublist (List.take_sublist _ _) HON.out) (fun a ha => by rw [hpl]; exact HOM.out a (List.mem_of_mem_take ha)) bb
                    have hb2 := HPB.out bb hbb
                    have hvb : 0 ≤ at0 (bump (parts0 total cs) ((ord (rests0 total cs)).take k)) bb ∧ at0 (bump (parts0 total cs) ((ord (rests0 total cs)).take k)) bb ≤ 1152921504606846977 := by
                      rw [hv]
                      split <;> omega
                    have hbl : (bump (parts0 total cs) ((ord (rests0 total cs)).take k)).length = n := by rw [bump_length]; exact hpl
                    have hE1 : RM L (.slice (some ⟨gw, 0, none⟩) n wc) (.slice (some ⟨gp, 0, none⟩) n pc) (.slice (some ⟨gr, 0, none⟩) n rc) cs (bump (parts0 total cs) ((ord (rests0 total cs)).take k)) (mark (rests0 total cs) ((ord (rests0 total cs)).take k)) w (wr.drewN q) := HE.out.more (below_drewN (Below.refl _ _) q)
                    obtain ⟨D1, f1, c1⟩ := hE1.turn.set hbl hbb (at0 (bump (parts0 total cs) ((ord (rests0 total cs)).take k)) bb + 1)
                    obtain ⟨D2, f2, c2⟩ := D1.turn.set hml hbb (-1)
                    rw [← hbs, ← hms] at D2
                    have HD2 : Hid _ := D2.turn
                    clear D1 D2 hE1 HE HBB hbe htk hbs hms hv hb2
                    generalize at0 (bump (parts0 total cs) ((ord (rests0 total cs)).take k)) bb = x at *
                    generalize at0 (mark (rests0 total cs) ((ord (rests0 total cs)).take k)) bb = y at *
                    go_wp2
                    go_roundw
                    case rel => exact ⟨k + 1, by omega, by go_num, HD2⟩
                    case measure => simp [intOf]; omega
              · obtain rfl : m = k := by omega
                go_wp2
                go_ret2
                refine ⟨_, rfl, ?_, by have := HE.out.below; exact this⟩
                rw [HDEF.out]
                have := HE.out.xp
                rw [bump_length, hpl] at this
                exact this
end Go.Proofs.Ytgohjkamikpdcaa
