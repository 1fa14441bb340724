import Derived.Test.YtjojhhkbebddmaaShH
namespace Go.Proofs.Ytjojhhkbebddmaa
open Go.RowKit Go.PlainAid
set_option linter.unusedVariables false
set_option linter.unusedSimpArgs false
theorem own_set1 {w : World} {L t s n g c i : Nat} {xs : List Value} (h : w.ownsRow L t s (.slice (some ⟨g, 0, none⟩) n c) n xs) (hi : i < xs.length) (u : Value) :
    (w.setCell ⟨g, i, none⟩ u).ownsRow L t s (.slice (some ⟨g, 0, none⟩) n c) n (xs.set i u) ∧ w.frozen? ⟨g, i, none⟩ = false ∧ w.cell? ⟨g, i, none⟩ = some (xs[i]'hi) := by
  rcases h.2 with ⟨h1, _⟩ | ⟨g2, c2, cur, h1, h2, h3, h4, h5, h6, h7⟩
  · cases h1
  · cases h1
    have hB : Blk w g cur t := h3
    refine ⟨⟨by rw [List.length_set]; exact h.1, Or.inr ⟨g, c, _, rfl, h2, hB.set i u, h4, h5, by simpa using h6, ?_⟩⟩, hB.frozen _, ?_⟩
    · rw [Array.toList_setIfInBounds, List.take_set, h7]
    · have := h.cells (g := g) rfl i _ (List.getElem?_eq_getElem hi)
      rwa [addr_add, Nat.zero_add] at this
theorem row_ptr {w : World} {L t s n c : Nat} {ao : Option Addr} {xs : List Value} (h : w.ownsRow L t s (.slice ao n c) n xs) (h0 : 0 < n) : ∃ g, ao = some ⟨g, 0, none⟩ := by
  rcases h.2 with ⟨h1, h2⟩ | ⟨g2, c, cur, h1, _⟩
  · omega
  · simp only [Value.slice.injEq] at h1
    exact ⟨g2, h1.1⟩
/-- The first k are written over. -/
def fillTo (F : Fam) (m : Int) (k : Nat) (xs : List Value) : List Value := full F k m ++ xs.drop (k * F.se)
theorem fillTo_zero (F : Fam) (m : Int) (xs : List Value) : fillTo F m 0 xs = xs := by simp [fillTo, full]
theorem fillTo_len {F : Fam} (h : F.Ok) {m : Int} {k n : Nat} {xs : List Value} (hx : xs.length = n * F.se) (hk : k ≤ n) : (fillTo F m k xs).length = n * F.se := by
  unfold fillTo
  rw [List.length_append, full_len h, List.length_drop, hx]
  have := Nat.mul_le_mul_right F.se hk
  omega
theorem fillTo_all {F : Fam} (h : F.Ok) {m : Int} {n : Nat} {xs : List Value} (hx : xs.length = n * F.se) : fillTo F m n xs = full F n m := by
  unfold fillTo
  rw [List.drop_of_length_le (by omega)]
  simp
theorem set_at (P t : List Value) (i j : Nat) (u : Value) (h : i = P.length + j) : (P ++ t).set i u = P ++ t.set j u := by
  subst h
  rw [List.set_append_right _ _ (by omega), Nat.add_sub_cancel_left]
theorem drop6 {xs : List Value} {i : Nat} (h : i + 6 ≤ xs.length) : ∃ a0 a1 a2 a3 a4 a5, xs.drop i = a0 :: a1 :: a2 :: a3 :: a4 :: a5 :: xs.drop (i + 6) := by
  have hl : (xs.drop i).length = xs.length - i := by simp
  have hd : xs.drop (i + 6) = (xs.drop i).drop 6 := by rw [List.drop_drop]
  rw [hd]
  match h2 : xs.drop i with
  | a0 :: a1 :: a2 :: a3 :: a4 :: a5 :: t => exact ⟨a0, a1, a2, a3, a4, a5, rfl⟩
  | [] | [_] | [_, _] | [_, _, _] | [_, _, _, _] | [_, _, _, _, _] => rw [h2] at hl; simp at hl; omega
theorem fillTo_setA {m : Int} {k n : Nat} {xs : List Value} (hx : xs.length = n * 6) (hk : k < n) : ((((((fillTo FA m k xs).set (k * 6) (.int .i64 (-9))).set (k * 6 + 1) (.int .i64 m)).set (k * 6 + 2) (.int .i64 0)).set (k * 6 + 3) (.int .i64 0)).set (k * 6 + 4) (.int .i64 0)).set (k * 6 + 5) (.int .i64 0) = fillTo FA m (k + 1) xs := by
  have hl : (full FA k m).length = k * 6 := full_len FA.ok k m
  obtain ⟨a0, a1, a2, a3, a4, a5, hd⟩ := drop6 (xs := xs) (i := k * 6) (by omega)
  unfold fillTo
  rw [show k * FA.se = k * 6 from rfl, show (k + 1) * FA.se = k * 6 + 6 from by show (k + 1) * 6 = _; omega, hd]
  rw [set_at _ _ (k * 6) 0 _ (by omega), set_at _ _ (k * 6 + 1) 1 _ (by omega), set_at _ _ (k * 6 + 2) 2 _ (by omega), set_at _ _ (k * 6 + 3) 3 _ (by omega), set_at _ _ (k * 6 + 4) 4 _ (by omega), set_at _ _ (k * 6 + 5) 5 _ (by omega), full_succ, List.append_assoc]
  rfl
theorem drop2 {xs : List Value} {i : Nat} (h : i + 2 ≤ xs.length) : ∃ a0 a1, xs.drop i = a0 :: a1 :: xs.drop (i + 2) := by
  have hl : (xs.drop i).length = xs.length - i := by simp
  have hd : xs.drop (i + 2) = (xs.drop i).drop 2 := by rw [List.drop_drop]
  rw [hd]
  match h2 : xs.drop i with
  | a0 :: a1 :: t => exact ⟨a0, a1, rfl⟩
  | [] | [_] => rw [h2] at hl; simp at hl; omega
theorem fillTo_setE {m : Int} {k n : Nat} {xs : List Value} (hx : xs.length = n * 2) (hk : k < n) : ((fillTo FE m k xs).set (k * 2) (.int .i64 (-9))).set (k * 2 + 1) (.int .i64 m) = fillTo FE m (k + 1) xs := by
  have hl : (full FE k m).length = k * 2 := full_len FE.ok k m
  obtain ⟨a0, a1, hd⟩ := drop2 (xs := xs) (i := k * 2) (by omega)
  unfold fillTo
  rw [show k * FE.se = k * 2 from rfl, show (k + 1) * FE.se = k * 2 + 2 from by show (k + 1) * 2 = _; omega, hd]
  rw [set_at _ _ (k * 2) 0 _ (by omega), set_at _ _ (k * 2 + 1) 1 _ (by omega), full_succ, List.append_assoc]
  rfl
set_option maxRecDepth 100000 in
set_option maxHeartbeats 1600000 in
theorem fillA_any {L n : Nat} {l : Value} {xs : List Value} {m : Int} (w : World) (hl : w.ownsRow L 56 6 l n xs) (hn : n ≤ 1000000) (hm0 : 0 ≤ m) (hm1 : m ≤ 1000000000000000) :
    Calls Try.prog 76 #[l, .int .i64 m] w fun r w' => r = .returned (.tuple #[]) ∧ w'.ownsRow L 56 6 l n (full FA n m) ∧ Chg (fun k => l.ownBlock = some k) w w' := by
  have hzl : xs.length = n * 6 := hl.1
  obtain ⟨lo, lc, hll, _⟩ := own_slice hl
  have HL : Hid _ := hl
  clear hl
  subst hll
  go_enter Try.func76, Try.ntmps76
  go_wp2
  go_loopw [4] (fun i wr => ∃ k : Nat, k ≤ n ∧ i = .int .i64 k ∧ Hid (wr.ownsRow L 56 6 (.slice lo n lc) n (fillTo FA m k xs)) ∧ Hid (Chg (fun k => (Value.slice lo n lc).ownBlock = some k) w wr)) (fun i _ => n - (intOf i).toNat)
  case atStart => exact ⟨0, Nat.zero_le _, rfl, by rw [fillTo_zero]; exact HL, Chg.refl _ _⟩
  case round =>
    clear HL
    obtain ⟨k, hk, rfl, HV, HB⟩ := hrel
    by_cases hlt : k < n
    · obtain ⟨g, rfl⟩ := row_ptr HV.out (by omega)
      have hfl : (fillTo FA m k xs).length = n * 6 := fillTo_len FA.ok hzl hk
      have hs0 := (own_set1 (i := k * 6) HV.out (by omega) (.int .i64 (-9))).1
      have hs1 := (own_set1 (i := k * 6 + 1) hs0 (by simp only [List.length_set]; omega) (.int .i64 m)).1
      have hs2 := (own_set1 (i := k * 6 + 2) hs1 (by simp only [List.length_set]; omega) (.int .i64 0)).1
      have hs3 := (own_set1 (i := k * 6 + 3) hs2 (by simp only [List.length_set]; omega) (.int .i64 0)).1
      have hs4 := (own_set1 (i := k * 6 + 4) hs3 (by simp only [List.length_set]; omega) (.int .i64 0)).1
      have hs5 := (own_set1 (i := k * 6 + 5) hs4 (by simp only [List.length_set]; omega) (.int .i64 0)).1
      obtain ⟨_, f0, c0⟩ := own_set1 (i := k * 6) HV.out (by omega) (.int .i64 (-9))
      obtain ⟨_, f1, c1⟩ := own_set1 (i := k * 6 + 1) HV.out (by omega) (.int .i64 m)
      obtain ⟨_, f2, c2⟩ := own_set1 (i := k * 6 + 2) HV.out (by omega) (.int .i64 0)
      obtain ⟨_, f3, c3⟩ := own_set1 (i := k * 6 + 3) HV.out (by omega) (.int .i64 0)
      obtain ⟨_, f4, c4⟩ := own_set1 (i := k * 6 + 4) HV.out (by omega) (.int .i64 0)
      obtain ⟨_, f5, c5⟩ := own_set1 (i := k * 6 + 5) HV.out (by omega) (.int .i64 0)
      rw [fillTo_setA hzl hlt] at hs5
      have HS : Hid _ := hs5
      have HC : Hid (Chg (fun k => (Value.slice (some ⟨g, 0, none⟩) n lc).ownBlock = some k) w ((((((wr.setCell ⟨g, k * 6, none⟩ (.int .i64 (-9))).setCell ⟨g, k * 6 + 1, none⟩ (.int .i64 m)).setCell ⟨g, k * 6 + 2, none⟩ (.int .i64 0)).setCell ⟨g, k * 6 + 3, none⟩ (.int .i64 0)).setCell ⟨g, k * 6 + 4, none⟩ (.int .i64 0)).setCell ⟨g, k * 6 + 5, none⟩ (.int .i64 0))) := ((((((HB.out.trans (chg_setCell _) (fun j _ e => by rw [e]; rfl)).trans (chg_setCell _) (fun j _ e => by rw [e]; rfl)).trans (chg_setCell _) (fun j _ e => by rw [e]; rfl)).trans (chg_setCell _) (fun j _ e => by rw [e]; rfl)).trans (chg_setCell _) (fun j _ e => by rw [e]; rfl)).trans (chg_setCell _) (fun j _ e => by rw [e]; rfl))
      generalize (fillTo FA m k xs)[k * 6]'(by omega) = y0 at c0
      generalize (fillTo FA m k xs)[k * 6 + 1]'(by omega) = y1 at c1
      generalize (fillTo FA m k xs)[k * 6 + 2]'(by omega) = y2 at c2
      generalize (fillTo FA m k xs)[k * 6 + 3]'(by omega) = y3 at c3
      generalize (fillTo FA m k xs)[k * 6 + 4]'(by omega) = y4 at c4
      generalize (fillTo FA m k xs)[k * 6 + 5]'(by omega) = y5 at c5
      clear hs0 hs1 hs2 hs3 hs4 hs5 HV HB hfl
      go_wp2
      go_roundw
      case rel => exact ⟨k + 1, by omega, by go_num, HS, HC⟩
      case measure => simp [intOf]; omega
    · obtain rfl : n = k := by omega
      go_wp2
      go_end0
      refine ⟨rfl, ?_, HB.out⟩
      have := HV.out
      rw [fillTo_all FA.ok hzl] at this
      exact this
set_option maxRecDepth 100000 in
set_option maxHeartbeats 1600000 in
theorem fillE_any {L n : Nat} {l : Value} {xs : List Value} {m : Int} (w : World) (hl : w.ownsRow L 49 2 l n xs) (hn : n ≤ 1000000) (hm0 : 0 ≤ m) (hm1 : m ≤ 1000000000000000) :
    Calls Try.prog 81 #[l, .int .i64 m] w fun r w' => r = .returned (.tuple #[]) ∧ w'.ownsRow L 49 2 l n (full FE n m) ∧ Chg (fun k => l.ownBlock = some k) w w' := by
  have hzl : xs.length = n * 2 := hl.1
  obtain ⟨lo, lc, hll, _⟩ := own_slice hl
  have HL : Hid _ := hl
  clear hl
  subst hll
  go_enter Try.func81, Try.ntmps81
  go_wp2
  go_loopw [4] (fun i wr => ∃ k : Nat, k ≤ n ∧ i = .int .i64 k ∧ Hid (wr.ownsRow L 49 2 (.slice lo n lc) n (fillTo FE m k xs)) ∧ Hid (Chg (fun k => (Value.slice lo n lc).ownBlock = some k) w wr)) (fun i _ => n - (intOf i).toNat)
  case atStart => exact ⟨0, Nat.zero_le _, rfl, by rw [fillTo_zero]; exact HL, Chg.refl _ _⟩
  case round =>
    clear HL
    obtain ⟨k, hk, rfl, HV, HB⟩ := hrel
    by_cases hlt : k < n
    · obtain ⟨g, rfl⟩ := row_ptr HV.out (by omega)
      have hfl : (fillTo FE m k xs).length = n * 2 := fillTo_len FE.ok hzl hk
      have hs0 := (own_set1 (i := k * 2) HV.out (by omega) (.int .i64 (-9))).1
      have hs1 := (own_set1 (i := k * 2 + 1) hs0 (by simp only [List.length_set]; omega) (.int .i64 m)).1
      obtain ⟨_, f0, c0⟩ := own_set1 (i := k * 2) HV.out (by omega) (.int .i64 (-9))
      obtain ⟨_, f1, c1⟩ := own_set1 (i := k * 2 + 1) HV.out (by omega) (.int .i64 m)
      rw [fillTo_setE hzl hlt] at hs1
      have HS : Hid _ := hs1
      have HC : Hid (Chg (fun k => (Value.slice (some ⟨g, 0, none⟩) n lc).ownBlock = some k) w ((wr.setCell ⟨g, k * 2, none⟩ (.int .i64 (-9))).setCell ⟨g, k * 2 + 1, none⟩ (.int .i64 m))) := ((HB.out.trans (chg_setCell _) (fun j _ e => by rw [e]; rfl)).trans (chg_setCell _) (fun j _ e => by rw [e]; rfl))
      generalize (fillTo FE m k xs)[k * 2]'(by omega) = y0 at c0
      generalize (fillTo FE m k xs)[k * 2 + 1]'(by omega) = y1 at c1
      clear hs0 hs1 HV HB hfl
      go_wp2
      go_roundw
      case rel => exact ⟨k + 1, by omega, by go_num, HS, HC⟩
      case measure => simp [intOf]; omega
    · obtain rfl : n = k := by omega
      go_wp2
      go_end0
      refine ⟨rfl, ?_, HB.out⟩
      have := HV.out
      rw [fillTo_all FE.ok hzl] at this
      exact this
structure ES where
  vI : Value
  vM : Value
  vR : Value
  vN : Value
  e : List Lst
  r : List Lst
def Marks (l : List Lst) : Prop := ∀ e ∈ l, 0 ≤ e.m ∧ e.m ≤ 1000000000000
theorem Marks.put {l l' : List Lst} {n : Nat} (h : Marks l) (hn : n ≤ 1000000000000) (hl : ∀ e ∈ l', e ∈ l ∨ e.m = (n : Int)) : Marks l' := fun e he => by
  rcases hl e he with q | q
  · exact h e q
  · omega
/-- A shelf whose lists are written over at once. -/
structure KE (L kb : Nat) (s : ES) (w : World) : Prop where
  blk : Blk w kb #[.bool false, s.vI, .slice none 0 0, s.vM, s.vR, .slice none 0 0, s.vN] 76
  b : KF FA L s.vI s.vM s.e s.e w
  v : KF FE L s.vR s.vN s.r s.r w
  mm : ∀ g, s.vM.ownBlock = some g → s.vN.ownBlock ≠ some g
  mb : Marks s.e
  mv : Marks s.r
  lk : L ≤ kb
def KB (kb : Nat) (s : ES) (k : Nat) : Prop := k = kb ∨ KFB s.vI s.vM s.e k ∨ KFB s.vR s.vN s.r k
theorem KE.lt {L kb : Nat} {s : ES} {w : World} (h : KE L kb s w) {k : Nat} (hk : KB kb s k) : L ≤ k ∧ k < w.heap.size := by
  rcases hk with rfl | e | e
  · exact ⟨h.lk, h.blk.lt⟩
  · exact h.b.lt e
  · exact h.v.lt e
theorem KE.frame {L kb : Nat} {s : ES} {w w2 : World} {B : Nat → Prop} (h : KE L kb s w) (hc : Chg B w w2) (hB : ∀ k, KB kb s k → ¬ B k) : KE L kb s w2 :=
  ⟨hc.blk h.blk (hB kb (.inl rfl)), h.b.frame hc (fun k hk => hB k (.inr (.inl hk))), h.v.frame hc (fun k hk => hB k (.inr (.inr hk))), h.mm, h.mb, h.mv, h.lk⟩
/-- What is held, its blocks. -/
theorem HS.bl {F : Fam} {L kb : Nat} {C : Array Value} {vI0 vM0 l : Value} {es0 : List Lst} {w : World} {vI vM far : Value} {es ms : List Lst} {nf : Nat} {m : Int} {wr : World} (h : HS F L kb C vI0 vM0 l es0 w vI vM far es ms nf m wr) {k : Nat} (hk : KFB vI vM es k) : KFB vI0 vM0 es0 k ∨ l.ownBlock = some k ∨ w.heap.size ≤ k := by
  rcases hk with q | q | ⟨x, hx, q⟩
  · rcases h.ni k q with q | q
    · exact .inl (.inl q)
    · exact .inr (.inr q)
  · rcases h.nm k q with q | q
    · exact .inl (.inr (.inl q))
    · exact .inr (.inr q)
  · rcases h.ne x hx k q with ⟨x0, h0, q⟩ | q | q
    · exact .inl (.inr (.inr ⟨x0, h0, q⟩))
    · exact .inr (.inl q)
    · exact .inr (.inr q)
theorem KE.heldA {L kb n : Nat} {s : ES} {l v1 v2 far : Value} {es' : List Lst} {w w2 : World} {xs : List Value} {m : Nat} (h : KE L kb s w) (hl : w.ownsRow L 56 6 l n xs) (hm : m ≤ 1000000000000)
    (hH : HS FA L kb #[.bool false, s.vI, .slice none 0 0, s.vM, s.vR, .slice none 0 0, s.vN] s.vI s.vM l s.e w v1 v2 far es' es' (n + 40) m w2) : KE L kb ⟨v1, v2, s.vR, s.vN, es', s.r⟩ w2 ∧ Chg (fun k => KB kb s k ∨ l.ownBlock = some k) w w2 ∧ ∀ k, KB kb ⟨v1, v2, s.vR, s.vN, es', s.r⟩ k → KB kb s k ∨ l.ownBlock = some k ∨ w.heap.size ≤ k := by
  refine ⟨⟨hH.blk, hH.kf, KF.other (G := FE) (F := FA) FE.ok FA.ok (by decide) (by decide) (by decide) (by decide) h.v h.blk h.b.xi h.b.xm hl (fun g e e2 => h.mm g e2 e) hH.chg, fun g e => (by rcases hH.nm g e with q | q; exact h.mm g q; exact fun e2 => by have := (ownsRow_lt h.v.xm e2).2; omega), h.mb.put hm hH.mrk, h.mv, h.lk⟩, hH.chg.mono (fun k _ e => ?_), fun k hk => ?_⟩
  · rcases e with e | e | e | e
    · exact .inl (.inl e)
    · exact .inl (.inr (.inl (.inl e)))
    · exact .inl (.inr (.inl (.inr (.inl e))))
    · exact .inr e
  · rcases hk with q | q | q
    · exact .inl (.inl q)
    · rcases hH.bl q with q | q | q
      · exact .inl (.inr (.inl q))
      · exact .inr (.inl q)
      · exact .inr (.inr q)
    · exact .inl (.inr (.inr q))
theorem KE.heldE {L kb n : Nat} {s : ES} {l v1 v2 far : Value} {es' : List Lst} {w w2 : World} {xs : List Value} {m : Nat} (h : KE L kb s w) (hl : w.ownsRow L 49 2 l n xs) (hm : m ≤ 1000000000000)
    (hH : HS FE L kb #[.bool false, s.vI, .slice none 0 0, s.vM, s.vR, .slice none 0 0, s.vN] s.vR s.vN l s.r w v1 v2 far es' es' (n + 40) m w2) : KE L kb ⟨s.vI, s.vM, v1, v2, s.e, es'⟩ w2 ∧ Chg (fun k => KB kb s k ∨ l.ownBlock = some k) w w2 ∧ ∀ k, KB kb ⟨s.vI, s.vM, v1, v2, s.e, es'⟩ k → KB kb s k ∨ l.ownBlock = some k ∨ w.heap.size ≤ k := by
  refine ⟨⟨hH.blk, KF.other (G := FA) (F := FE) FA.ok FE.ok (by decide) (by decide) (by decide) (by decide) h.b h.blk h.v.xi h.v.xm hl h.mm hH.chg, hH.kf, fun g e e2 => (by rcases hH.nm g e2 with q | q; exact h.mm g e q; have := (ownsRow_lt h.b.xm e).2; omega), h.mb, h.mv.put hm hH.mrk, h.lk⟩, hH.chg.mono (fun k _ e => ?_), fun k hk => ?_⟩
  · rcases e with e | e | e | e
    · exact .inl (.inl e)
    · exact .inl (.inr (.inr (.inl e)))
    · exact .inl (.inr (.inr (.inr (.inl e))))
    · exact .inr e
  · rcases hk with q | q | q
    · exact .inl (.inl q)
    · exact .inl (.inr (.inl q))
    · rcases hH.bl q with q | q | q
      · exact .inl (.inr (.inr q))
      · exact .inr (.inl q)
      · exact .inr (.inr q)
end Go.Proofs.Ytjojhhkbebddmaa
