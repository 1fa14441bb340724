import Derived.Test.YtfgnlfemckdfnaaJI
namespace Go.Proofs.Ytfgnlfemckdfnaa.Sh
open Go.RowKit Go.PlainAid
set_option linter.unusedVariables false
set_option linter.unusedSimpArgs false
theorem own_set1 {w : World} {L t s n g c i : Nat} {xs : List Value} (h : w.ownsRow L t s (.slice (some ⟨g, 0, none⟩) n c) n xs) (hi : i < xs.length) (u : Value) :
    (w.setCell ⟨g, i, none⟩ u).ownsRow L t s (.slice (some ⟨g, 0, none⟩) n c) n (xs.set i u) ∧ w.frozen? ⟨g, i, none⟩ = false ∧ w.cell? ⟨g, i, none⟩ = some (xs[i]'hi) := by
  rcases h.2 with ⟨h1, _⟩ | ⟨g2, c2, cur, h1, h2, h3, h4, h5, h6, h7⟩
  · cases h1
  · cases h1
    have hB : Blk w g cur t := h3
    refine ⟨⟨by rw [List.length_set]; exact h.1, Or.inr ⟨g, c, _, rfl, h2, hB.set i u, h4, h5, by simpa using h6, ?_⟩⟩, hB.frozen _, ?_⟩
    · rw [Array.toList_setIfInBounds, List.take_set, h7]
    · have := h.cells (g := g) rfl i _ (List.getElem?_eq_getElem hi)
      rwa [addr_add, Nat.zero_add] at this
theorem row_ptr {w : World} {L t s n c : Nat} {ao : Option Addr} {xs : List Value} (h : w.ownsRow L t s (.slice ao n c) n xs) (h0 : 0 < n) : ∃ g, ao = some ⟨g, 0, none⟩ := by
  rcases h.2 with ⟨h1, h2⟩ | ⟨g2, c, cur, h1, _⟩
  · omega
  · simp only [Value.slice.injEq] at h1
    exact ⟨g2, h1.1⟩
def fillTo (F : Fam) (m : Int) (k : Nat) (xs : List Value) : List Value := full F k m ++ xs.drop (k * F.se)
theorem fillTo_zero (F : Fam) (m : Int) (xs : List Value) : fillTo F m 0 xs = xs := by simp [fillTo, full]
theorem fillTo_len {F : Fam} (h : F.Ok) {m : Int} {k n : Nat} {xs : List Value} (hx : xs.length = n * F.se) (hk : k ≤ n) : (fillTo F m k xs).length = n * F.se := by
  unfold fillTo
  rw [List.length_append, full_len h, List.length_drop, hx]
  have := Nat.mul_le_mul_right F.se hk
  omega
theorem fillTo_all {F : Fam} (h : F.Ok) {m : Int} {n : Nat} {xs : List Value} (hx : xs.length = n * F.se) : fillTo F m n xs = full F n m := by
  unfold fillTo
  rw [List.drop_of_length_le (by omega)]
  simp
theorem set_at (P t : List Value) (i j : Nat) (u : Value) (h : i = P.length + j) : (P ++ t).set i u = P ++ t.set j u := by
  subst h
  rw [List.set_append_right _ _ (by omega), Nat.add_sub_cancel_left]
theorem fillTo_setB {m : Int} {k n : Nat} {xs : List Value} (hx : xs.length = n) (hk : k < n) : (fillTo FB m k xs).set k (.int .u8 (m % 250 + 1)) = fillTo FB m (k + 1) xs := by
  unfold fillTo
  rw [set_at _ _ k 0 _ (by rw [full_len FB.ok]; show k = k * 1 + 0; omega), full_succ, List.append_assoc, show k * FB.se = k from Nat.mul_one k, show (k + 1) * FB.se = k + 1 from Nat.mul_one _, List.drop_eq_getElem_cons (by omega : k < xs.length)]
  rfl
theorem drop7 {xs : List Value} {i : Nat} (h : i + 7 ≤ xs.length) : ∃ a0 a1 a2 a3 a4 a5 a6, xs.drop i = a0 :: a1 :: a2 :: a3 :: a4 :: a5 :: a6 :: xs.drop (i + 7) := by
  have hl : (xs.drop i).length = xs.length - i := by simp
  have hd : xs.drop (i + 7) = (xs.drop i).drop 7 := by rw [List.drop_drop]
  rw [hd]
  match h2 : xs.drop i with
  | a0 :: a1 :: a2 :: a3 :: a4 :: a5 :: a6 :: t => exact ⟨a0, a1, a2, a3, a4, a5, a6, rfl⟩
  | [] | [_] | [_, _] | [_, _, _] | [_, _, _, _] | [_, _, _, _, _] | [_, _, _, _, _, _] => rw [h2] at hl; simp at hl; omega
theorem fillTo_setV {m : Int} {k n : Nat} {xs : List Value} (hx : xs.length = n * 7) (hk : k < n) : (((((((fillTo FV m k xs).set (k * 7) (.string ⟨#[109, 97, 114, 107]⟩)).set (k * 7 + 1) (.int .i64 m)).set (k * 7 + 2) (.int .i64 0)).set (k * 7 + 3) (.int .i64 0)).set (k * 7 + 4) (.int .i64 0)).set (k * 7 + 5) (.int .i64 0)).set (k * 7 + 6) (.int .i64 0) = fillTo FV m (k + 1) xs := by
  have hl : (full FV k m).length = k * 7 := full_len FV.ok k m
  obtain ⟨a0, a1, a2, a3, a4, a5, a6, hd⟩ := drop7 (xs := xs) (i := k * 7) (by omega)
  unfold fillTo
  rw [show k * FV.se = k * 7 from rfl, show (k + 1) * FV.se = k * 7 + 7 from by show (k + 1) * 7 = _; omega, hd]
  rw [set_at _ _ (k * 7) 0 _ (by omega), set_at _ _ (k * 7 + 1) 1 _ (by omega), set_at _ _ (k * 7 + 2) 2 _ (by omega), set_at _ _ (k * 7 + 3) 3 _ (by omega), set_at _ _ (k * 7 + 4) 4 _ (by omega), set_at _ _ (k * 7 + 5) 5 _ (by omega), set_at _ _ (k * 7 + 6) 6 _ (by omega), full_succ, List.append_assoc]
  rfl
set_option maxRecDepth 100000 in
set_option maxHeartbeats 1600000 in
theorem fillB_any {L n : Nat} {l : Value} {xs : List Value} {m : Int} (w : World) (hl : w.ownsRow L 5 1 l n xs) (hn : n ≤ 1000000) (hm0 : 0 ≤ m) (hm1 : m ≤ 1000000000000000) :
    Calls Try.prog 89 #[l, .int .i64 m] w fun r w' => r = .returned (.tuple #[]) ∧ w'.ownsRow L 5 1 l n (full FB n m) ∧ Chg (fun k => l.ownBlock = some k) w w' := by
  have hzl : xs.length = n * 1 := hl.1
  obtain ⟨lo, lc, hll, _⟩ := own_slice hl
  have hwm : IntKind.i64.wrap (m.tmod 250) = m % 250 := by rw [Int.tmod_eq_emod_of_nonneg hm0, IntKind.wrap_i64]; omega
  have hwa : IntKind.i64.wrap (m % 250 + 1) = m % 250 + 1 := by rw [IntKind.wrap_i64]; omega
  have hwu : IntKind.u8.wrap (m % 250 + 1) = m % 250 + 1 := by rw [IntKind.wrap_u8]; omega
  have HL : Hid _ := hl
  clear hl
  subst hll
  go_enter Try.func89, Try.ntmps89
  go_wp2
  go_loopw [4] (fun i wr => ∃ k : Nat, k ≤ n ∧ i = .int .i64 k ∧ Hid (wr.ownsRow L 5 1 (.slice lo n lc) n (fillTo FB m k xs)) ∧ Hid (Chg (fun k => (Value.slice lo n lc).ownBlock = some k) w wr)) (fun i _ => n - (intOf i).toNat)
  case atStart => exact ⟨0, Nat.zero_le _, rfl, by rw [fillTo_zero]; exact HL, Chg.refl _ _⟩
  case round =>
    clear HL
    obtain ⟨k, hk, rfl, HV, HB⟩ := hrel
    by_cases hlt : k < n
    · obtain ⟨g, rfl⟩ := row_ptr HV.out (by omega)
      have hfl : (fillTo FB m k xs).length = n * 1 := fillTo_len FB.ok hzl hk
      obtain ⟨hs, f0, c0⟩ := own_set1 (i := k) HV.out (by omega) (.int .u8 (m % 250 + 1))
      rw [fillTo_setB (by omega) hlt] at hs
      have HS : Hid _ := hs
      have HC : Hid (Chg (fun k => (Value.slice (some ⟨g, 0, none⟩) n lc).ownBlock = some k) w (wr.setCell ⟨g, k, none⟩ (.int .u8 (m % 250 + 1)))) := HB.out.trans (chg_setCell _) (fun j _ e => by rw [e]; rfl)
      generalize (fillTo FB m k xs)[k]'(by omega) = y0 at *
      clear hs HV HB hfl
      go_wp2
      go_roundw
      case rel => exact ⟨k + 1, by omega, by go_num, HS, HC⟩
      case measure => simp [intOf]; omega
    · obtain rfl : n = k := by omega
      go_wp2
      go_end0
      refine ⟨rfl, ?_, HB.out⟩
      have := HV.out
      rw [fillTo_all FB.ok hzl] at this
      exact this
set_option maxRecDepth 100000 in
set_option maxHeartbeats 1600000 in
theorem fillV_any {L n : Nat} {l : Value} {xs : List Value} {m : Int} (w : World) (hl : w.ownsRow L 112 7 l n xs) (hn : n ≤ 1000000) (hm0 : 0 ≤ m) (hm1 : m ≤ 1000000000000000) :
    Calls Try.prog 91 #[l, .int .i64 m] w fun r w' => r = .returned (.tuple #[]) ∧ w'.ownsRow L 112 7 l n (full FV n m) ∧ Chg (fun k => l.ownBlock = some k) w w' := by
  have hzl : xs.length = n * 7 := hl.1
  obtain ⟨lo, lc, hll, _⟩ := own_slice hl
  have HL : Hid _ := hl
  clear hl
  subst hll
  go_enter Try.func91, Try.ntmps91
  go_wp2
  go_loopw [4] (fun i wr => ∃ k : Nat, k ≤ n ∧ i = .int .i64 k ∧ Hid (wr.ownsRow L 112 7 (.slice lo n lc) n (fillTo FV m k xs)) ∧ Hid (Chg (fun k => (Value.slice lo n lc).ownBlock = some k) w wr)) (fun i _ => n - (intOf i).toNat)
  case atStart => exact ⟨0, Nat.zero_le _, rfl, by rw [fillTo_zero]; exact HL, Chg.refl _ _⟩
  case round =>
    clear HL
    obtain ⟨k, hk, rfl, HV, HB⟩ := hrel
    by_cases hlt : k < n
    · obtain ⟨g, rfl⟩ := row_ptr HV.out (by omega)
      have hfl : (fillTo FV m k xs).length = n * 7 := fillTo_len FV.ok hzl hk
      have hs0 := (own_set1 (i := k * 7) HV.out (by omega) (.string ⟨#[109, 97, 114, 107]⟩)).1
      have hs1 := (own_set1 (i := k * 7 + 1) hs0 (by simp only [List.length_set]; omega) (.int .i64 m)).1
      have hs2 := (own_set1 (i := k * 7 + 2) hs1 (by simp only [List.length_set]; omega) (.int .i64 0)).1
      have hs3 := (own_set1 (i := k * 7 + 3) hs2 (by simp only [List.length_set]; omega) (.int .i64 0)).1
      have hs4 := (own_set1 (i := k * 7 + 4) hs3 (by simp only [List.length_set]; omega) (.int .i64 0)).1
      have hs5 := (own_set1 (i := k * 7 + 5) hs4 (by simp only [List.length_set]; omega) (.int .i64 0)).1
      have hs6 := (own_set1 (i := k * 7 + 6) hs5 (by simp only [List.length_set]; omega) (.int .i64 0)).1
      obtain ⟨_, f0, c0⟩ := own_set1 (i := k * 7) HV.out (by omega) (.string ⟨#[109, 97, 114, 107]⟩)
      obtain ⟨_, f1, c1⟩ := own_set1 (i := k * 7 + 1) HV.out (by omega) (.int .i64 m)
      obtain ⟨_, f2, c2⟩ := own_set1 (i := k * 7 + 2) HV.out (by omega) (.int .i64 0)
      obtain ⟨_, f3, c3⟩ := own_set1 (i := k * 7 + 3) HV.out (by omega) (.int .i64 0)
      obtain ⟨_, f4, c4⟩ := own_set1 (i := k * 7 + 4) HV.out (by omega) (.int .i64 0)
      obtain ⟨_, f5, c5⟩ := own_set1 (i := k * 7 + 5) HV.out (by omega) (.int .i64 0)
      obtain ⟨_, f6, c6⟩ := own_set1 (i := k * 7 + 6) HV.out (by omega) (.int .i64 0)
      rw [fillTo_setV hzl hlt] at hs6
      have HS : Hid _ := hs6
      have HC : Hid (Chg (fun k => (Value.slice (some ⟨g, 0, none⟩) n lc).ownBlock = some k) w (((((((wr.setCell ⟨g, k * 7, none⟩ (.string ⟨#[109, 97, 114, 107]⟩)).setCell ⟨g, k * 7 + 1, none⟩ (.int .i64 m)).setCell ⟨g, k * 7 + 2, none⟩ (.int .i64 0)).setCell ⟨g, k * 7 + 3, none⟩ (.int .i64 0)).setCell ⟨g, k * 7 + 4, none⟩ (.int .i64 0)).setCell ⟨g, k * 7 + 5, none⟩ (.int .i64 0)).setCell ⟨g, k * 7 + 6, none⟩ (.int .i64 0))) := (((((((HB.out.trans (chg_setCell _) (fun j _ e => by rw [e]; rfl)).trans (chg_setCell _) (fun j _ e => by rw [e]; rfl)).trans (chg_setCell _) (fun j _ e => by rw [e]; rfl)).trans (chg_setCell _) (fun j _ e => by rw [e]; rfl)).trans (chg_setCell _) (fun j _ e => by rw [e]; rfl)).trans (chg_setCell _) (fun j _ e => by rw [e]; rfl)).trans (chg_setCell _) (fun j _ e => by rw [e]; rfl))
      generalize (fillTo FV m k xs)[k * 7]'(by omega) = y0 at c0
      generalize (fillTo FV m k xs)[k * 7 + 1]'(by omega) = y1 at c1
      generalize (fillTo FV m k xs)[k * 7 + 2]'(by omega) = y2 at c2
      generalize (fillTo FV m k xs)[k * 7 + 3]'(by omega) = y3 at c3
      generalize (fillTo FV m k xs)[k * 7 + 4]'(by omega) = y4 at c4
      generalize (fillTo FV m k xs)[k * 7 + 5]'(by omega) = y5 at c5
      generalize (fillTo FV m k xs)[k * 7 + 6]'(by omega) = y6 at c6
      clear hs0 hs1 hs2 hs3 hs4 hs5 hs6 HV HB hfl
      go_wp2
      go_roundw
      case rel => exact ⟨k + 1, by omega, by go_num, HS, HC⟩
      case measure => simp [intOf]; omega
    · obtain rfl : n = k := by omega
      go_wp2
      go_end0
      refine ⟨rfl, ?_, HB.out⟩
      have := HV.out
      rw [fillTo_all FV.ok hzl] at this
      exact this
structure ES where
  vI : Value
  vM : Value
  vR : Value
  vN : Value
  e : List Ent
  r : List Ent
def Marks (l : List Ent) : Prop := ∀ e ∈ l, 0 ≤ e.m ∧ e.m ≤ 1000000000000
theorem Marks.put {l l' : List Ent} {n : Nat} (h : Marks l) (hn : n ≤ 1000000000000) (hl : ∀ e ∈ l', e ∈ l ∨ e.m = (n : Int)) : Marks l' := fun e he => by
  rcases hl e he with q | q
  · exact h e q
  · omega
structure KE (L kb : Nat) (s : ES) (w : World) : Prop where
  blk : Blk w kb #[.bool false, s.vI, .slice none 0 0, s.vM, s.vR, .slice none 0 0, s.vN] 71
  b : KF FB L s.vI s.vM s.e s.e w
  v : KF FV L s.vR s.vN s.r s.r w
  mm : ∀ g, s.vM.ownBlock = some g → s.vN.ownBlock ≠ some g
  mb : Marks s.e
  mv : Marks s.r
  lk : L ≤ kb
def KB (kb : Nat) (s : ES) (k : Nat) : Prop := k = kb ∨ KFB s.vI s.vM s.e k ∨ KFB s.vR s.vN s.r k
theorem KE.lt {L kb : Nat} {s : ES} {w : World} (h : KE L kb s w) {k : Nat} (hk : KB kb s k) : L ≤ k ∧ k < w.heap.size := by
  rcases hk with rfl | e | e
  · exact ⟨h.lk, h.blk.lt⟩
  · exact h.b.lt e
  · exact h.v.lt e
theorem KE.frame {L kb : Nat} {s : ES} {w w2 : World} {B : Nat → Prop} (h : KE L kb s w) (hc : Chg B w w2) (hB : ∀ k, KB kb s k → ¬ B k) : KE L kb s w2 :=
  ⟨hc.blk h.blk (hB kb (.inl rfl)), h.b.frame hc (fun k hk => hB k (.inr (.inl hk))), h.v.frame hc (fun k hk => hB k (.inr (.inr hk))), h.mm, h.mb, h.mv, h.lk⟩
theorem HS.bl {F : Fam} {L kb : Nat} {C : Array Value} {vI0 vM0 l : Value} {es0 : List Ent} {w : World} {vI vM far : Value} {es ms : List Ent} {nf : Nat} {m : Int} {wr : World} (h : HS F L kb C vI0 vM0 l es0 w vI vM far es ms nf m wr) {k : Nat} (hk : KFB vI vM es k) : KFB vI0 vM0 es0 k ∨ l.ownBlock = some k ∨ w.heap.size ≤ k := by
  rcases hk with q | q | ⟨x, hx, q⟩
  · rcases h.ni k q with q | q
    · exact .inl (.inl q)
    · exact .inr (.inr q)
  · rcases h.nm k q with q | q
    · exact .inl (.inr (.inl q))
    · exact .inr (.inr q)
  · rcases h.ne x hx k q with ⟨x0, h0, q⟩ | q | q
    · exact .inl (.inr (.inr ⟨x0, h0, q⟩))
    · exact .inr (.inl q)
    · exact .inr (.inr q)
theorem KE.heldB {L kb n : Nat} {s : ES} {l v1 v2 far : Value} {es' : List Ent} {w w2 : World} {xs : List Value} {m : Nat} (h : KE L kb s w) (hl : w.ownsRow L 5 1 l n xs) (hm : m ≤ 1000000000000)
    (hH : HS FB L kb #[.bool false, s.vI, .slice none 0 0, s.vM, s.vR, .slice none 0 0, s.vN] s.vI s.vM l s.e w v1 v2 far es' es' (n + 40) m w2) : KE L kb ⟨v1, v2, s.vR, s.vN, es', s.r⟩ w2 ∧ Chg (fun k => KB kb s k ∨ l.ownBlock = some k) w w2 ∧ ∀ k, KB kb ⟨v1, v2, s.vR, s.vN, es', s.r⟩ k → KB kb s k ∨ l.ownBlock = some k ∨ w.heap.size ≤ k := by
  refine ⟨⟨hH.blk, hH.kf, KF.other (G := FV) (F := FB) FV.ok FB.ok (by decide) (by decide) (by decide) (by decide) h.v h.blk h.b.xi h.b.xm hl (fun g e e2 => h.mm g e2 e) hH.chg, fun g e => (by rcases hH.nm g e with q | q; exact h.mm g q; exact fun e2 => by have := (ownsRow_lt h.v.xm e2).2; omega), h.mb.put hm hH.mrk, h.mv, h.lk⟩, hH.chg.mono (fun k _ e => ?_), fun k hk => ?_⟩
  · rcases e with e | e | e | e
    · exact .inl (.inl e)
    · exact .inl (.inr (.inl (.inl e)))
    · exact .inl (.inr (.inl (.inr (.inl e))))
    · exact .inr e
  · rcases hk with q | q | q
    · exact .inl (.inl q)
    · rcases hH.bl q with q | q | q
      · exact .inl (.inr (.inl q))
      · exact .inr (.inl q)
      · exact .inr (.inr q)
    · exact .inl (.inr (.inr q))
theorem KE.heldV {L kb n : Nat} {s : ES} {l v1 v2 far : Value} {es' : List Ent} {w w2 : World} {xs : List Value} {m : Nat} (h : KE L kb s w) (hl : w.ownsRow L 112 7 l n xs) (hm : m ≤ 1000000000000)
    (hH : HS FV L kb #[.bool false, s.vI, .slice none 0 0, s.vM, s.vR, .slice none 0 0, s.vN] s.vR s.vN l s.r w v1 v2 far es' es' (n + 40) m w2) : KE L kb ⟨s.vI, s.vM, v1, v2, s.e, es'⟩ w2 ∧ Chg (fun k => KB kb s k ∨ l.ownBlock = some k) w w2 ∧ ∀ k, KB kb ⟨s.vI, s.vM, v1, v2, s.e, es'⟩ k → KB kb s k ∨ l.ownBlock = some k ∨ w.heap.size ≤ k := by
  refine ⟨⟨hH.blk, KF.other (G := FB) (F := FV) FB.ok FV.ok (by decide) (by decide) (by decide) (by decide) h.b h.blk h.v.xi h.v.xm hl h.mm hH.chg, hH.kf, fun g e e2 => (by rcases hH.nm g e2 with q | q; exact h.mm g e q; have := (ownsRow_lt h.b.xm e).2; omega), h.mb, h.mv.put hm hH.mrk, h.lk⟩, hH.chg.mono (fun k _ e => ?_), fun k hk => ?_⟩
  · rcases e with e | e | e | e
    · exact .inl (.inl e)
    · exact .inl (.inr (.inr (.inl e)))
    · exact .inl (.inr (.inr (.inr (.inl e))))
    · exact .inr e
  · rcases hk with q | q | q
    · exact .inl (.inl q)
    · exact .inl (.inr (.inl q))
    · rcases hH.bl q with q | q | q
      · exact .inl (.inr (.inr q))
      · exact .inr (.inl q)
      · exact .inr (.inr q)
end Go.Proofs.Ytfgnlfemckdfnaa.Sh
namespace Go.Proofs.Ytfgnlfemckdfnaa.Sh
open Go.RowKit Go.PlainAid
set_option linter.unusedVariables false
set_option linter.unusedSimpArgs false
theorem row_cell {w : World} {L t s n c g i : Nat} {xs : List Value} {x : Value} (h : w.ownsRow L t s (.slice (some ⟨g, 0, none⟩) n c) n xs) (hx : xs[i]? = some x) : w.cell? ⟨g, i, none⟩ = some x := by
  have := h.cells (g := g) rfl i x hx
  rwa [addr_add, Nat.zero_add] at this
theorem own_maxLen {w : World} {L t s n : Nat} {v : Value} {xs : List Value} (h : w.ownsRow L t s v n xs) : n ≤ maxLen := by
  rcases h.2 with ⟨_, h2⟩ | ⟨g, c, cur, _, _, _, h4, h5, _⟩
  · omega
  · omega
set_option maxRecDepth 100000 in
set_option maxHeartbeats 3200000 in
theorem whole_early {L kb : Nat} {S : ES} (w : World) (hK : KE L kb S w) :
    Calls Try.prog 65 #[.pointer (some ⟨kb, 0, none⟩)] w fun r w' => r = .returned (.bool true) ∧ ∃ q, w' = w.drewN q := by
  obtain ⟨vI, vM, vR, vN, e1, r1⟩ := S
  have c0 : w.cell? ⟨kb, 0, none⟩ = some (.bool false) := hK.blk.cell 0
  have hm1 : Marks e1 := hK.mb
  have hm2 : Marks r1 := hK.mv
  obtain ⟨io, ci, hii, _⟩ := own_slice hK.b.xi
  obtain ⟨mo, cm, hmm, _⟩ := own_slice hK.b.xm
  obtain ⟨ro, cr, hrr, _⟩ := own_slice hK.v.xi
  obtain ⟨no, cn, hnn, _⟩ := own_slice hK.v.xm
  have hel := own_maxLen hK.b.xi
  have hrl := own_maxLen hK.v.xi
  obtain ⟨ne, hne⟩ : ∃ ne, ne = e1.length := ⟨_, rfl⟩
  obtain ⟨nr, hnr⟩ : ∃ nr, nr = r1.length := ⟨_, rfl⟩
  have HNE : Hid (ne = e1.length) := hne
  have HNR : Hid (nr = r1.length) := hnr
  have HK : Hid _ := hK
  have HM : Hid _ := And.intro hm1 hm2
  simp only at hii hmm hrr hnn hel hrl
  rw [← hne] at hii hmm hel
  rw [← hnr] at hrr hnn hrl
  unfold maxLen at hel hrl
  subst hii hmm hrr hnn
  have c1 : w.cell? ⟨kb, 1, none⟩ = some (.slice io ne ci) := hK.blk.cell 1
  have c4 : w.cell? ⟨kb, 4, none⟩ = some (.slice ro nr cr) := hK.blk.cell 4
  clear hK hne hnr hm1 hm2
  go_enter Try.func65, Try.ntmps65
  go_wp2_with fail
  go_loopw [3, 4] (fun s3 _ wr => ∃ i q : Nat, i ≤ ne ∧ s3 = .int .i64 (i : Int) ∧ wr = w.drewN q) (fun s3 _ _ => ne - (intOf s3).toNat)
  case atStart => exact ⟨0, 0, Nat.zero_le _, rfl, rfl⟩
  case round =>
    obtain ⟨i, q, hie, rfl, rfl⟩ := hrel
    have c1' : (w.drewN q).cell? ⟨kb, 1, none⟩ = some (.slice io ne ci) := c1
    by_cases hi : i < ne
    · obtain ⟨e, he⟩ : ∃ e, e1[i]? = some e := ⟨e1[i]'(by rw [← HNE.out]; exact hi), List.getElem?_eq_getElem _⟩
      have hem := List.mem_of_getElem? he
      have hrow := HK.out.b.en e hem
      obtain ⟨hmk1, hmk2⟩ := HM.out.1 e hem
      obtain ⟨ev, nv, em⟩ := e
      simp only at hrow hmk1 hmk2
      have hnv := own_maxLen hrow
      unfold maxLen at hnv
      obtain ⟨vo, cv, hvv, _⟩ := own_slice hrow
      subst hvv
      have xi := HK.out.b.xi
      simp only at xi
      rw [← HNE.out] at xi
      have xm := HK.out.b.xm
      simp only at xm
      rw [← HNE.out] at xm
      obtain ⟨gi, rfl⟩ := row_ptr xi (by omega)
      obtain ⟨gm, rfl⟩ := row_ptr xm (by omega)
      have d2 : w.cell? ⟨gi, i, none⟩ = some (.slice vo nv cv) := row_cell xi (by rw [List.getElem?_map, he]; rfl)
      have d5 : w.cell? ⟨gm, i, none⟩ = some (.int .i64 em) := row_cell xm (by rw [List.getElem?_map, List.getElem?_map, he]; rfl)
      have d4 : w.cell? ⟨kb, 3, none⟩ = some (.slice (some ⟨gm, 0, none⟩) ne cm) := HK.out.blk.cell 3
      have HROW : Hid (w.ownsRow L 5 1 (.slice vo nv cv) nv (full FB nv em)) := hrow
      clear xi xm he hem hrow
      have e2' : (w.drewN q).cell? ⟨gi, i, none⟩ = some (.slice vo nv cv) := d2
      obtain ⟨z, hz⟩ : ∃ z, z = em % 250 + 1 := ⟨_, rfl⟩
      have hwm : IntKind.i64.wrap (em.tmod 250) = em % 250 := by rw [Int.tmod_eq_emod_of_nonneg hmk1, IntKind.wrap_i64]; omega
      have hwa : IntKind.i64.wrap (em % 250 + 1) = z := by rw [IntKind.wrap_i64]; omega
      have hwu : IntKind.u8.wrap z = z := by rw [IntKind.wrap_u8]; omega
      have HZ : Hid _ := hz
      clear hz
      go_wp2_with fail
      go_loopw [4] (fun s4 wq => ∃ j q : Nat, j ≤ nv ∧ s4 = .int .i64 (j : Int) ∧ wq = w.drewN q) (fun s4 _ => nv - (intOf s4).toNat)
      case atStart => exact ⟨0, q, Nat.zero_le _, rfl, rfl⟩
      case round =>
        clear c1' e2'
        obtain ⟨j, q, hjn, rfl, rfl⟩ := hrel
        have f1 : (w.drewN q).cell? ⟨kb, 1, none⟩ = some (.slice (some ⟨gi, 0, none⟩) ne ci) := c1
        have f2 : (w.drewN q).cell? ⟨gi, i, none⟩ = some (.slice vo nv cv) := d2
        by_cases hj : j < nv
        · obtain ⟨gv, rfl⟩ := row_ptr HROW.out (by omega)
          have a3 : w.cell? ⟨gv, j, none⟩ = some (.int .u8 z) := by rw [HZ.out]; exact row_cell HROW.out (by have := full_at FB.ok (m := em) (j := 0) hj rfl; rwa [show j * FB.se + 0 = j from Nat.mul_one j] at this)
          have f3 : (w.drewN q).cell? ⟨gv, j, none⟩ = some (.int .u8 z) := a3
          have f4 : (w.drewN q).cell? ⟨kb, 3, none⟩ = some (.slice (some ⟨gm, 0, none⟩) ne cm) := d4
          have f5 : (w.drewN q).cell? ⟨gm, i, none⟩ = some (.int .i64 em) := d5
          clear HROW
          go_wp2_with fail
          go_quiet (fail)
          go_wp2_with fail
          go_roundw
          case rel => exact ⟨j + 1, _, by omega, by go_num, rfl⟩
          case measure => simp [intOf]; omega
        · go_wp2_with fail
          go_roundw
          case rel => exact ⟨i + 1, _, by omega, by go_num, rfl⟩
          case measure => simp [intOf]; omega
    · go_wp2_with fail
      go_loopw [5, 6] (fun s5 _ wr => ∃ i q : Nat, i ≤ nr ∧ s5 = .int .i64 (i : Int) ∧ wr = w.drewN q) (fun s5 _ _ => nr - (intOf s5).toNat)
      case atStart => exact ⟨0, q, Nat.zero_le _, rfl, rfl⟩
      case round =>
        clear c1'
        obtain ⟨i, q, hie, rfl, rfl⟩ := hrel
        have c4' : (w.drewN q).cell? ⟨kb, 4, none⟩ = some (.slice ro nr cr) := c4
        by_cases hi : i < nr
        · obtain ⟨e, he⟩ : ∃ e, r1[i]? = some e := ⟨r1[i]'(by rw [← HNR.out]; exact hi), List.getElem?_eq_getElem _⟩
          have hem := List.mem_of_getElem? he
          have hrow := HK.out.v.en e hem
          obtain ⟨hmk1, hmk2⟩ := HM.out.2 e hem
          obtain ⟨ev, nv, em⟩ := e
          simp only at hrow hmk1 hmk2
          have hnv := own_maxLen hrow
          unfold maxLen at hnv
          obtain ⟨vo, cv, hvv, _⟩ := own_slice hrow
          subst hvv
          have xi := HK.out.v.xi
          simp only at xi
          rw [← HNR.out] at xi
          have xm := HK.out.v.xm
          simp only at xm
          rw [← HNR.out] at xm
          obtain ⟨gi, rfl⟩ := row_ptr xi (by omega)
          obtain ⟨gm, rfl⟩ := row_ptr xm (by omega)
          have d2 : w.cell? ⟨gi, i, none⟩ = some (.slice vo nv cv) := row_cell xi (by rw [List.getElem?_map, he]; rfl)
          have d5 : w.cell? ⟨gm, i, none⟩ = some (.int .i64 em) := row_cell xm (by rw [List.getElem?_map, List.getElem?_map, he]; rfl)
          have d4 : w.cell? ⟨kb, 6, none⟩ = some (.slice (some ⟨gm, 0, none⟩) nr cn) := HK.out.blk.cell 6
          have HROW : Hid (w.ownsRow L 112 7 (.slice vo nv cv) nv (full FV nv em)) := hrow
          clear xi xm he hem hrow
          have e2' : (w.drewN q).cell? ⟨gi, i, none⟩ = some (.slice vo nv cv) := d2
          go_wp2_with fail
          go_loopw [6] (fun s6 wq => ∃ j q : Nat, j ≤ nv ∧ s6 = .int .i64 (j : Int) ∧ wq = w.drewN q) (fun s6 _ => nv - (intOf s6).toNat)
          case atStart => exact ⟨0, q, Nat.zero_le _, rfl, rfl⟩
          case round =>
            clear c4' e2'
            obtain ⟨j, q, hjn, rfl, rfl⟩ := hrel
            have f1 : (w.drewN q).cell? ⟨kb, 4, none⟩ = some (.slice (some ⟨gi, 0, none⟩) nr cr) := c4
            have f2 : (w.drewN q).cell? ⟨gi, i, none⟩ = some (.slice vo nv cv) := d2
            by_cases hj : j < nv
            · obtain ⟨gv, rfl⟩ := row_ptr HROW.out (by omega)
              have a30 : w.cell? ⟨gv, j * 7, none⟩ = some (.string ⟨#[109, 97, 114, 107]⟩) := row_cell HROW.out (full_at FV.ok (m := em) (j := 0) hj rfl)
              have f30 : (w.drewN q).cell? ⟨gv, j * 7, none⟩ = some (.string ⟨#[109, 97, 114, 107]⟩) := a30
              have a31 : w.cell? ⟨gv, j * 7 + 1, none⟩ = some (.int .i64 em) := row_cell HROW.out (full_at FV.ok (m := em) (j := 1) hj rfl)
              have f31 : (w.drewN q).cell? ⟨gv, j * 7 + 1, none⟩ = some (.int .i64 em) := a31
              have a32 : w.cell? ⟨gv, j * 7 + 2, none⟩ = some (.int .i64 0) := row_cell HROW.out (full_at FV.ok (m := em) (j := 2) hj rfl)
              have f32 : (w.drewN q).cell? ⟨gv, j * 7 + 2, none⟩ = some (.int .i64 0) := a32
              have a33 : w.cell? ⟨gv, j * 7 + 3, none⟩ = some (.int .i64 0) := row_cell HROW.out (full_at FV.ok (m := em) (j := 3) hj rfl)
              have f33 : (w.drewN q).cell? ⟨gv, j * 7 + 3, none⟩ = some (.int .i64 0) := a33
              have a34 : w.cell? ⟨gv, j * 7 + 4, none⟩ = some (.int .i64 0) := row_cell HROW.out (full_at FV.ok (m := em) (j := 4) hj rfl)
              have f34 : (w.drewN q).cell? ⟨gv, j * 7 + 4, none⟩ = some (.int .i64 0) := a34
              have a35 : w.cell? ⟨gv, j * 7 + 5, none⟩ = some (.int .i64 0) := row_cell HROW.out (full_at FV.ok (m := em) (j := 5) hj rfl)
              have f35 : (w.drewN q).cell? ⟨gv, j * 7 + 5, none⟩ = some (.int .i64 0) := a35
              have a36 : w.cell? ⟨gv, j * 7 + 6, none⟩ = some (.int .i64 0) := row_cell HROW.out (full_at FV.ok (m := em) (j := 6) hj rfl)
              have f36 : (w.drewN q).cell? ⟨gv, j * 7 + 6, none⟩ = some (.int .i64 0) := a36
              have f4 : (w.drewN q).cell? ⟨kb, 6, none⟩ = some (.slice (some ⟨gm, 0, none⟩) nr cn) := d4
              have f5 : (w.drewN q).cell? ⟨gm, i, none⟩ = some (.int .i64 em) := d5
              clear HROW
              go_wp2_with fail
              go_quiet (fail)
              go_wp2_with fail
              go_roundw
              case rel => exact ⟨j + 1, _, by omega, by go_num, rfl⟩
              case measure => simp [intOf]; omega
            · go_wp2_with fail
              go_roundw
              case rel => exact ⟨i + 1, _, by omega, by go_num, rfl⟩
              case measure => simp [intOf]; omega
        · go_wp2_with fail
          go_ret
          exact ⟨rfl, q, rfl⟩
end Go.Proofs.Ytfgnlfemckdfnaa.Sh
