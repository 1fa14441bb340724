import Derived.Test.YtgohjkamikpdcaaHoR
namespace Go.Proofs.Ytgohjkamikpdcaa
open Go.RowKit Go.PlainAid
set_option linter.unusedVariables false
set_option linter.unusedSimpArgs false
set_option maxRecDepth 100000 in
set_option maxHeartbeats 1600000 in
theorem fillI_any {L n : Nat} {l : Value} {zs : List Int} {m : Int} (w : World) (hl : w.ownsRow L 3 1 l n (zs.map I)) (hn : n ≤ 1000000) (hm0 : 0 ≤ m) (hm1 : m ≤ 1000000000000000) :
    Calls Try.prog 40 #[l, .int .i64 m] w fun r w' => r = .returned (.tuple #[]) ∧ w'.ownsRow L 3 1 l n (fullI n m) ∧ Chg (fun k => l.ownBlock = some k) w w' := by
  have hzl : zs.length = n := by simpa using hl.1
  obtain ⟨lo, lc, hll, _⟩ := own_slice hl
  have hwm : IntKind.i64.wrap (-1000 - m) = -1000 - m := by rw [IntKind.wrap_i64]; omega
  have HL : Hid _ := hl
  clear hl
  subst hll
  go_enter Try.func40, Try.ntmps40
  go_wp2
  go_loopw [4] (fun i wr => ∃ k : Nat, k ≤ n ∧ i = .int .i64 k ∧ Hid (wr.ownsRow L 3 1 (.slice lo n lc) n ((fillTo (-1000 - m) k zs).map I)) ∧ Hid (Chg (fun k => (Value.slice lo n lc).ownBlock = some k) w wr)) (fun i _ => n - (intOf i).toNat)
  case atStart => exact ⟨0, Nat.zero_le _, rfl, by rw [fillTo_zero]; exact HL, Chg.refl _ _⟩
  case round =>
    clear HL
    obtain ⟨k, hk, rfl, HV, HB⟩ := hrel
    by_cases hlt : k < n
    · obtain ⟨g, c, hv, _, _, _, _, _⟩ := own_form HV.out (by omega)
      cases hv
      obtain ⟨hs, hfz, hcl⟩ := own_set HV.out hlt (-1000 - m)
      rw [fillTo_set (by omega)] at hs
      have HS : Hid _ := hs
      have HC : Hid (Chg (fun k => (Value.slice (some ⟨g, 0, none⟩) n lc).ownBlock = some k) w (wr.setCell ⟨g, k, none⟩ (.int .i64 (-1000 - m)))) := HB.out.trans (Chg.setCell _) (fun j _ e => by rw [e]; rfl)
      clear hs HV HB
      go_wp2
      go_roundw
      case rel => exact ⟨k + 1, by omega, by go_num, HS, HC⟩
      case measure => simp [intOf]; omega
    · obtain rfl : n = k := by omega
      go_wp2
      go_end0
      refine ⟨rfl, ?_, HB.out⟩
      have := HV.out
      rw [fillTo_all hzl] at this
      exact this
def fillToR (z : Int × Int) (k : Nat) (zs : List (Int × Int)) : List (Int × Int) := List.replicate k z ++ zs.drop k
theorem fillToR_zero (z : Int × Int) (zs : List (Int × Int)) : fillToR z 0 zs = zs := by simp [fillToR]
theorem fillToR_set {z : Int × Int} {k : Nat} {zs : List (Int × Int)} (h : k < zs.length) : (fillToR z k zs).set k z = fillToR z (k + 1) zs := by
  unfold fillToR
  rw [List.set_append_right _ _ (by simp), List.length_replicate, Nat.sub_self, List.drop_eq_getElem_cons h, List.set_cons_zero, List.replicate_succ']
  simp
theorem fillToR_all {z : Int × Int} {zs : List (Int × Int)} {n : Nat} (h : zs.length = n) : fillToR z n zs = List.replicate n z := by
  unfold fillToR
  rw [List.drop_of_length_le (by omega)]
  simp
set_option maxRecDepth 100000 in
set_option maxHeartbeats 1600000 in
theorem fillR_any {L n : Nat} {l : Value} {zs : List (Int × Int)} {m : Int} (w : World) (hl : w.ownsRow L 38 2 l n (flatR zs)) (hn : n ≤ 1000000) (hm0 : 0 ≤ m) (hm1 : m ≤ 1000000000000000) :
    Calls Try.prog 42 #[l, .int .i64 m] w fun r w' => r = .returned (.tuple #[]) ∧ w'.ownsRow L 38 2 l n (fullR n m) ∧ Chg (fun k => l.ownBlock = some k) w w' := by
  have hzl : zs.length = n := ownR_len hl
  obtain ⟨lo, lc, hll, _⟩ := own_slice hl
  have hwm : IntKind.i64.wrap (-1000 - m) = -1000 - m := by rw [IntKind.wrap_i64]; omega
  have HL : Hid _ := hl
  clear hl
  subst hll
  go_enter Try.func42, Try.ntmps42
  go_wp2
  go_loopw [4] (fun i wr => ∃ k : Nat, k ≤ n ∧ i = .int .i64 k ∧ Hid (wr.ownsRow L 38 2 (.slice lo n lc) n (flatR (fillToR (-1000 - m, 0) k zs))) ∧ Hid (Chg (fun k => (Value.slice lo n lc).ownBlock = some k) w wr)) (fun i _ => n - (intOf i).toNat)
  case atStart => exact ⟨0, Nat.zero_le _, rfl, by rw [fillToR_zero]; exact HL, Chg.refl _ _⟩
  case round =>
    clear HL
    obtain ⟨k, hk, rfl, HV, HB⟩ := hrel
    by_cases hlt : k < n
    · obtain ⟨g, c, hv, _, _, _, _⟩ := ownR_form HV.out (by omega)
      cases hv
      obtain ⟨hs, f1, f2⟩ := ownR_set HV.out hlt (-1000 - m) 0
      obtain ⟨c1, c2⟩ := ownR_at HV.out hlt
      rw [fillToR_set (by omega)] at hs
      have HS : Hid _ := hs
      have HC : Hid (Chg (fun k => (Value.slice (some ⟨g, 0, none⟩) n lc).ownBlock = some k) w ((wr.setCell ⟨g, k * 2, none⟩ (.int .i64 (-1000 - m))).setCell ⟨g, k * 2 + 1, none⟩ (.int .i64 0))) := (HB.out.trans (Chg.setCell _) (fun j _ e => by rw [e]; rfl)).trans (Chg.setCell _) (fun j _ e => by rw [e]; rfl)
      generalize atR (fillToR (-1000 - m, 0) k zs) k = pr at *
      clear hs HV HB
      go_wp2
      go_roundw
      case rel => exact ⟨k + 1, by omega, by go_num, HS, HC⟩
      case measure => simp [intOf]; omega
    · obtain rfl : n = k := by omega
      go_wp2
      go_end0
      refine ⟨rfl, ?_, HB.out⟩
      have := HV.out
      rw [fillToR_all hzl] at this
      exact this
set_option maxRecDepth 100000 in
set_option maxHeartbeats 1600000 in
/-- An answer is kept: written over at once, and grown. -/
theorem putI_any {L kb n : Nat} {vI vM vR vN l : Value} {e1 r1 : List Ent} {zs : List Int} (w : World) (hK : KE L kb vI vM vR vN e1 e1 r1 r1 w) (hl : w.ownsRow L 3 1 l n (zs.map I)) (hap : ∀ g, l.ownBlock = some g → ¬ KB kb vI vM vR vN e1 r1 g) (hn : n ≤ 1000) (hel : e1.length ≤ 1000000000000) :
    Calls Try.prog 23 #[.pointer (some ⟨kb, 0, none⟩), l] w fun r w' => r = .returned (.tuple #[]) ∧ ∃ v1 v2 es, KE L kb v1 v2 vR vN es es r1 r1 w' ∧ (∀ e ∈ es, e ∈ e1 ∨ e.m = (e1.length : Int)) ∧ es.length ≤ e1.length + 18 ∧ Chg (fun k => k = kb ∨ vI.ownBlock = some k ∨ vM.ownBlock = some k ∨ l.ownBlock = some k) w w' ∧ ∀ k, KB kb v1 v2 vR vN es r1 k → KB kb vI vM vR vN e1 r1 k ∨ l.ownBlock = some k ∨ w.heap.size ≤ k := by
  have hf := fillI_any (m := (e1.length : Int)) w hl (by omega) (by omega) (by omega)
  obtain ⟨mo, mc, hmm, _⟩ := own_slice hK.xm
  obtain ⟨lo, lc, hll, _⟩ := own_slice hl
  have c0 : w.cell? ⟨kb, 0, none⟩ = some (.bool false) := hK.blk.cell 0
  have c3 : w.cell? ⟨kb, 3, none⟩ = some (.slice mo e1.length mc) := by rw [← hmm]; exact hK.blk.cell 3
  have HK : Hid _ := hK
  have HAP : Hid _ := hap
  clear hl hK hap
  subst hll
  go_enter Try.func23, Try.ntmps23
  go_wp2_with fail
  refine hf.mono ?_
  rintro e w1 ⟨rfl, h1, hc1⟩
  have hK1 : KE L kb vI vM vR vN e1 e1 r1 r1 w1 := HK.out.frame hc1 (fun k hk e => HAP.out k e hk)
  have hh := holdI_any w1 hK1 h1 (fun g e => ⟨fun q => HAP.out g e (.inr (.inr (.inl q))), fun q => HAP.out g e (.inr (.inr (.inr (.inr (.inl q)))))⟩) (fun x hx g e q => HAP.out g e (.inr (.inr (.inr (.inr (.inr (.inl ⟨x, hx, q⟩))))))) hn (by omega) (by omega) hel
  have HC1 : Hid _ := hc1
  clear hf h1 hc1 c0 c3 hK1
  go_wp2_with fail
  refine hh.mono ?_
  rintro e w2 ⟨rfl, v1, v2, far, es, hH, hle, _⟩
  have HR : Hid (KE L kb v1 v2 vR vN es es r1 r1 w2 ∧ (∀ e ∈ es, e ∈ e1 ∨ e.m = (e1.length : Int)) ∧ es.length ≤ e1.length + 18 ∧ Chg (fun k => k = kb ∨ vI.ownBlock = some k ∨ vM.ownBlock = some k ∨ (Value.slice lo n lc).ownBlock = some k) w w2 ∧ ∀ k, KB kb v1 v2 vR vN es r1 k → KB kb vI vM vR vN e1 r1 k ∨ (Value.slice lo n lc).ownBlock = some k ∨ w.heap.size ≤ k) := ⟨hH.ke, hH.mrk, hle, (HC1.out.mono (fun j _ e => .inr (.inr (.inr e)))).trans hH.chg (fun j _ e => e), fun k hk => by
    have hsz := HC1.out.size
    rcases hk with q | q | q | q | q | ⟨x, hx, q⟩ | ⟨x, hx, q⟩
    · exact .inl (.inl q)
    · rcases hH.ni k q with q | q
      · exact .inl (.inr (.inl q))
      · exact .inr (.inr (by omega))
    · rcases hH.nm k q with q | q
      · exact .inl (.inr (.inr (.inl q)))
      · exact .inr (.inr (by omega))
    · exact .inl (.inr (.inr (.inr (.inl q))))
    · exact .inl (.inr (.inr (.inr (.inr (.inl q)))))
    · rcases hH.ne x hx k q with ⟨x0, h0, q⟩ | q | q
      · exact .inl (.inr (.inr (.inr (.inr (.inr (.inl ⟨x0, h0, q⟩))))))
      · exact .inr (.inl q)
      · exact .inr (.inr (by omega))
    · exact .inl (.inr (.inr (.inr (.inr (.inr (.inr ⟨x, hx, q⟩))))))⟩
  clear hh hH
  go_wp2
  go_end0
  exact ⟨rfl, v1, v2, es, HR.out⟩
set_option maxRecDepth 100000 in
set_option maxHeartbeats 1600000 in
/-- An answer is kept: written over at once, and grown. -/
theorem putR_any {L kb n : Nat} {vI vM vR vN l : Value} {e1 r1 : List Ent} {zs : List (Int × Int)} (w : World) (hK : KE L kb vI vM vR vN e1 e1 r1 r1 w) (hl : w.ownsRow L 38 2 l n (flatR zs)) (hap : ∀ g, l.ownBlock = some g → ¬ KB kb vI vM vR vN e1 r1 g) (hn : n ≤ 1000) (hel : r1.length ≤ 1000000000000) :
    Calls Try.prog 26 #[.pointer (some ⟨kb, 0, none⟩), l] w fun r w' => r = .returned (.tuple #[]) ∧ ∃ v1 v2 es, KE L kb vI vM v1 v2 e1 e1 es es w' ∧ (∀ e ∈ es, e ∈ r1 ∨ e.m = (r1.length : Int)) ∧ es.length ≤ r1.length + 18 ∧ Chg (fun k => k = kb ∨ vR.ownBlock = some k ∨ vN.ownBlock = some k ∨ l.ownBlock = some k) w w' ∧ ∀ k, KB kb vI vM v1 v2 e1 es k → KB kb vI vM vR vN e1 r1 k ∨ l.ownBlock = some k ∨ w.heap.size ≤ k := by
  have hf := fillR_any (m := (r1.length : Int)) w hl (by omega) (by omega) (by omega)
  obtain ⟨mo, mc, hmm, _⟩ := own_slice hK.ym
  obtain ⟨lo, lc, hll, _⟩ := own_slice hl
  have c0 : w.cell? ⟨kb, 0, none⟩ = some (.bool false) := hK.blk.cell 0
  have c3 : w.cell? ⟨kb, 6, none⟩ = some (.slice mo r1.length mc) := by rw [← hmm]; exact hK.blk.cell 6
  have HK : Hid _ := hK
  have HAP : Hid _ := hap
  clear hl hK hap
  subst hll
  go_enter Try.func26, Try.ntmps26
  go_wp2_with fail
  refine hf.mono ?_
  rintro e w1 ⟨rfl, h1, hc1⟩
  have hK1 : KE L kb vI vM vR vN e1 e1 r1 r1 w1 := HK.out.frame hc1 (fun k hk e => HAP.out k e hk)
  have hh := holdR_any w1 hK1 h1 (fun g e => ⟨fun q => HAP.out g e (.inr (.inr (.inl q))), fun q => HAP.out g e (.inr (.inr (.inr (.inr (.inl q)))))⟩) (fun x hx g e q => HAP.out g e (.inr (.inr (.inr (.inr (.inr (.inr ⟨x, hx, q⟩))))))) hn (by omega) (by omega) hel
  have HC1 : Hid _ := hc1
  clear hf h1 hc1 c0 c3 hK1
  go_wp2_with fail
  refine hh.mono ?_
  rintro e w2 ⟨rfl, v1, v2, far, es, hH, hle, _⟩
  have HR : Hid (KE L kb vI vM v1 v2 e1 e1 es es w2 ∧ (∀ e ∈ es, e ∈ r1 ∨ e.m = (r1.length : Int)) ∧ es.length ≤ r1.length + 18 ∧ Chg (fun k => k = kb ∨ vR.ownBlock = some k ∨ vN.ownBlock = some k ∨ (Value.slice lo n lc).ownBlock = some k) w w2 ∧ ∀ k, KB kb vI vM v1 v2 e1 es k → KB kb vI vM vR vN e1 r1 k ∨ (Value.slice lo n lc).ownBlock = some k ∨ w.heap.size ≤ k) := ⟨hH.ke, hH.mrk, hle, (HC1.out.mono (fun j _ e => .inr (.inr (.inr e)))).trans hH.chg (fun j _ e => e), fun k hk => by
    have hsz := HC1.out.size
    rcases hk with q | q | q | q | q | ⟨x, hx, q⟩ | ⟨x, hx, q⟩
    · exact .inl (.inl q)
    · exact .inl (.inr (.inl q))
    · exact .inl (.inr (.inr (.inl q)))
    · rcases hH.ni k q with q | q
      · exact .inl (.inr (.inr (.inr (.inl q))))
      · exact .inr (.inr (by omega))
    · rcases hH.nm k q with q | q
      · exact .inl (.inr (.inr (.inr (.inr (.inl q)))))
      · exact .inr (.inr (by omega))
    · exact .inl (.inr (.inr (.inr (.inr (.inr (.inl ⟨x, hx, q⟩))))))
    · rcases hH.ne x hx k q with ⟨x0, h0, q⟩ | q | q
      · exact .inl (.inr (.inr (.inr (.inr (.inr (.inr ⟨x0, h0, q⟩))))))
      · exact .inr (.inl q)
      · exact .inr (.inr (by omega))⟩
  clear hh hH
  go_wp2
  go_end0
  exact ⟨rfl, v1, v2, es, HR.out⟩
/-- A keep, by what it does. -/
structure Keeper (σ : Type) (L kb : Nat) where
  Inv : σ → World → Prop
  bl : σ → Nat → Prop
  cnt : σ → Nat
  lt : ∀ {s w k}, Inv s w → bl s k → L ≤ k ∧ k < w.heap.size
  low : ∀ {s w}, Inv s w → L ≤ w.heap.size
  frame : ∀ {s w w2} {B : Nat → Prop}, Inv s w → Chg B w w2 → (∀ k, bl s k → ¬ B k) → Inv s w2
  putI : ∀ {s w l n} {zs : List Int}, Inv s w → w.ownsRow L 3 1 l n (zs.map I) → (∀ g, l.ownBlock = some g → ¬ bl s g) → n ≤ 1000 → cnt s ≤ 1000000000000 →
    Calls Try.prog 23 #[.pointer (some ⟨kb, 0, none⟩), l] w fun r w' => r = .returned (.tuple #[]) ∧ ∃ s', Inv s' w' ∧ cnt s' ≤ cnt s + 18 ∧ Chg (fun k => bl s k ∨ l.ownBlock = some k) w w' ∧ ∀ k, bl s' k → bl s k ∨ l.ownBlock = some k ∨ w.heap.size ≤ k
  putR : ∀ {s w l n} {zs : List (Int × Int)}, Inv s w → w.ownsRow L 38 2 l n (flatR zs) → (∀ g, l.ownBlock = some g → ¬ bl s g) → n ≤ 1000 → cnt s ≤ 1000000000000 →
    Calls Try.prog 26 #[.pointer (some ⟨kb, 0, none⟩), l] w fun r w' => r = .returned (.tuple #[]) ∧ ∃ s', Inv s' w' ∧ cnt s' ≤ cnt s + 18 ∧ Chg (fun k => bl s k ∨ l.ownBlock = some k) w w' ∧ ∀ k, bl s' k → bl s k ∨ l.ownBlock = some k ∨ w.heap.size ≤ k
structure ES where
  vI : Value
  vM : Value
  vR : Value
  vN : Value
  e : List Ent
  r : List Ent
theorem KE.bl {L kb : Nat} {vI vM vR vN l : Value} {e1 r1 : List Ent} (k : Nat) (h : k = kb ∨ vI.ownBlock = some k ∨ vM.ownBlock = some k ∨ l.ownBlock = some k) : KB kb vI vM vR vN e1 r1 k ∨ l.ownBlock = some k := by
  rcases h with q | q | q | q
  · exact .inl (.inl q)
  · exact .inl (.inr (.inl q))
  · exact .inl (.inr (.inr (.inl q)))
  · exact .inr q
theorem KE.blR {L kb : Nat} {vI vM vR vN l : Value} {e1 r1 : List Ent} (k : Nat) (h : k = kb ∨ vR.ownBlock = some k ∨ vN.ownBlock = some k ∨ l.ownBlock = some k) : KB kb vI vM vR vN e1 r1 k ∨ l.ownBlock = some k := by
  rcases h with q | q | q | q
  · exact .inl (.inl q)
  · exact .inl (.inr (.inr (.inr (.inl q))))
  · exact .inl (.inr (.inr (.inr (.inr (.inl q)))))
  · exact .inr q
def Marks (l : List Ent) : Prop := ∀ e ∈ l, 0 ≤ e.m ∧ e.m ≤ 1000000000000
theorem Marks.put {l l' : List Ent} {n : Nat} (h : Marks l) (hn : n ≤ 1000000000000) (hl : ∀ e ∈ l', e ∈ l ∨ e.m = (n : Int)) : Marks l' := fun e he => by
  rcases hl e he with q | q
  · exact h e q
  · omega
/-- The keep that writes over at once. -/
def early (L kb : Nat) : Keeper ES L kb where
  Inv s w := KE L kb s.vI s.vM s.vR s.vN s.e s.e s.r s.r w ∧ Marks s.e ∧ Marks s.r
  bl s := KB kb s.vI s.vM s.vR s.vN s.e s.r
  cnt s := s.e.length + s.r.length
  lt h hk := h.1.lt hk
  low h := Nat.le_trans h.1.lk (Nat.le_of_lt h.1.blk.lt)
  frame h hc hB := ⟨h.1.frame hc hB, h.2⟩
  putI {s w l n zs} h hl hap hn hc := (putI_any w h.1 hl hap hn (by omega)).mono fun r w' ⟨h0, v1, v2, es, h1, hm, h2, h3, h4⟩ => ⟨h0, ⟨v1, v2, s.vR, s.vN, es, s.r⟩, ⟨h1, h.2.1.put (by omega) hm, h.2.2⟩, by show es.length + s.r.length ≤ _; omega, h3.mono (fun k _ e => KE.bl (L := L) k e), h4⟩
  putR {s w l n zs} h hl hap hn hc := (putR_any w h.1 hl hap hn (by omega)).mono fun r w' ⟨h0, v1, v2, es, h1, hm, h2, h3, h4⟩ => ⟨h0, ⟨s.vI, s.vM, v1, v2, s.e, es⟩, ⟨h1, h.2.1, h.2.2.put (by omega) hm⟩, by show s.e.length + es.length ≤ _; omega, h3.mono (fun k _ e => KE.blR (L := L) k e), h4⟩
end Go.Proofs.Ytgohjkamikpdcaa
