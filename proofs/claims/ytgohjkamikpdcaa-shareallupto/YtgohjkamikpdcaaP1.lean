import Derived.Test.YtgohjkamikpdcaaPut
import Derived.Test.YtgohjkamikpdcaaP4
import Derived.Test.YtgohjkamikpdcaaRSpl
namespace Go.Proofs.Ytgohjkamikpdcaa
open Go.RowKit Go.PlainAid
set_option linter.unusedVariables false
set_option linter.unusedSimpArgs false
theorem dealL_le (t : Int) (ws : List Int) : (dealL t ws).length ≤ 16 := by
  unfold dealL
  split
  · rename_i h
    unfold okD at h
    simp only [Bool.and_eq_true] at h
    have := (cnt_ok h.2).le
    rw [dealG_length, cnt_length]
    omega
  · simp
theorem splitL_le (d u : Int) (ws : List Int) : (splitL d u ws).length ≤ 16 := by
  unfold splitL
  split
  · have := dealL_le d ws
    simp
    omega
  · simp
theorem PB.put {σ : Type} {L kb : Nat} (K : Keeper σ L kb) {s : σ} {w wr w2 : World} {kk a b : Int} {ao : Option Addr} {n c g cap : Nat} {zs ys : List Int} {p : Value} (h : PB (K.bl s) w kk a b ao n c zs g cap ys wr) (hI : K.Inv s w) (hp : ∀ j, p.ownBlock = some j → w.heap.size + 1 ≤ j ∧ j ≠ g) (hsrc : 0 < zs.length → ∀ b off, ao = some ⟨b, off, none⟩ → b < w.heap.size ∧ ¬ K.bl s b) (hc : Chg (fun k => K.bl s k ∨ p.ownBlock = some k) wr w2) : PB (K.bl s) w kk a b ao n c zs g cap ys w2 := by
  have hlow := h.low
  refine h.keep hc ?_ ?_ ?_ ?_
  · rintro (q | q)
    · have := (K.lt hI q).2; omega
    · have := (hp _ q).1; omega
  · rintro (q | q)
    · have := (K.lt hI q).2; omega
    · exact (hp _ q).2 rfl
  · intro h0 b off e
    obtain ⟨q1, q2⟩ := hsrc h0 b off e
    rintro (q | q)
    · exact q2 q
    · have := (hp _ q).1; omega
  · rintro j hj (q | q)
    · exact q
    · have := (hp _ q).1; omega
theorem PB.inv {σ : Type} {L kb : Nat} (K : Keeper σ L kb) {s : σ} {w wr : World} (hI : K.Inv s w) (hb : Below w.heap.size w wr) : K.Inv s wr := K.frame hI (Chg.ofBelow (fun _ => False) hb) (fun _ _ e => e)
set_option maxRecDepth 100000 in
set_option maxHeartbeats 6400000 in
theorem played1 {σ : Type} {L kb : Nat} (K : Keeper σ L kb) {s : σ} {ao : Option Addr} {n c : Nat} {zs : List Int} (a b : Int) (haw : IntKind.i64.wrap a = a) (hbw : IntKind.i64.wrap b = b) (w : World) (hI : K.Inv s w) (hl : zs.length = n) (hnil : ao = none → n = 0 ∧ c = 0) (hx : FromI w ao zs) (hn : (n + 2) * 8 ≤ 140737488355328) (hsrc : 0 < zs.length → ∀ b off, ao = some ⟨b, off, none⟩ → ¬ K.bl s b) (hcnt : K.cnt s + 18 ≤ 1000000000000) :
    Calls Try.prog 15 #[.pointer (some ⟨kb, 0, none⟩), .agg #[.int .i64 1, .int .i64 a, .int .i64 b, .slice ao n c]] w fun r w' => r = .returned (.bool true) ∧ ∃ s', K.Inv s' w' ∧ K.cnt s' ≤ K.cnt s + 36 ∧ Chg (K.bl s) w w' ∧ ∀ k, K.bl s' k → K.bl s k ∨ w.heap.size ≤ k := by
  have hle := lent_any (c := c) (w.alloc (.cells #[.int .i64 1, .int .i64 a, .int .i64 b, .slice ao n c] 47)) hl hnil (hx.all ((Below.refl _ _).alloc (Nat.le_refl _) _)) hn
  have hsz : (w.alloc (.cells #[.int .i64 1, .int .i64 a, .int .i64 b, .slice ao n c] 47)).heap.size = w.heap.size + 1 := World.size_alloc _ _
  have hc3 : (w.alloc (.cells #[.int .i64 1, .int .i64 a, .int .i64 b, .slice ao n c] 47)).cell? ⟨w.heap.size, 3, none⟩ = some (.slice ao n c) := Blk.cell (show Blk _ _ #[.int .i64 1, .int .i64 a, .int .i64 b, .slice ao n c] 47 from heap_alloc_new w _) 3
  rw [hsz] at hle
  have HX : Hid (FromI w ao zs) := hx
  have HLOW : Hid _ := K.low hI
  have HI0 : Hid _ := hI
  have HSRC : Hid (0 < zs.length → ∀ b off, ao = some ⟨b, off, none⟩ → b < w.heap.size ∧ ¬ K.bl s b) := fun h0 b off e => ⟨by subst e; exact hx.lt h0, hsrc h0 b off e⟩
  clear hx hsz hnil hsrc hI
  have hnm : n ≤ maxLen := by unfold maxLen; omega
  go_enter Try.func15, Try.ntmps15
  go_wp2_with fail
  refine hle.mono ?_
  rintro e w1 ⟨g, cap, rfl, hcap, hrow, hb1⟩
  have hP : PB (K.bl s) w 1 a b ao n c zs g cap (zs ++ [77, 78]) w1 := PB.start _ HX.out hb1 hrow
  have hnc : n ≤ cap := by omega
  have hbw1 : Below w.heap.size w w1 := ((Below.refl _ _).alloc (Nat.le_refl _) _).trans (hb1.mono (by omega))
  have b0 := hP.c0
  have b1 := hP.c1
  have b2 := hP.c2
  have b3 := hP.c3
  have HP1 : Hid _ := hP
  have HI1 : Hid _ := PB.inv K HI0.out hbw1
  have hg1 : w.heap.size + 1 ≤ g ∧ g < w1.heap.size := hP.low
  have hw1s := hbw1.size
  clear hrow hb1 hP hle hc3 hbw1
  have hd := deal_any (c := cap) a w1 hl (HP1.out.lent hl) hnm
  go_wp2_with fail
  refine hd.mono ?_
  rintro e wp ⟨p, rfl, hp, hbp⟩
  obtain ⟨po, pc, hpv, _⟩ := own_slice hp
  subst hpv
  have HPp : Hid _ := HP1.out.more hbp
  have HIp : Hid _ := K.frame HI1.out (Chg.ofBelow (fun _ => False) hbp) (fun _ _ e => e)
  have d1 := HPp.out.c1
  have d2 := HPp.out.c2
  have d3 := HPp.out.c3
  have HRp : Hid _ := hp
  clear hd hp hbp b0 b1 b2 b3
  have hd := rdeal_any (c := c) a wp hl HPp.out.src hnm
  go_wp2_with fail
  refine hd.mono ?_
  rintro e wq ⟨q, rfl, hq, hbq⟩
  obtain ⟨qo, qc, hqv, _⟩ := own_slice hq
  subst hqv
  have HPq : Hid _ := HPp.out.more hbq
  have HIq : Hid _ := K.frame HIp.out (Chg.ofBelow (fun _ => False) hbq) (fun _ _ e => e)
  have HRq : Hid _ := ownsRow_same HRp.out (fun j hj => hbq.block j (ownsRow_lt HRp.out hj).2)
  have hsm := same_any (c1 := pc) (c2 := qc) (xs := dealL a zs) (ys := dealL a zs) wq rfl rfl (by obtain ⟨_, _, e, _, _, _, hf, _⟩ := own_from HRq.out; cases e; exact hf) (by obtain ⟨_, _, e, _, _, _, hf, _⟩ := own_from hq; cases e; exact hf) (by have := dealL_le a zs; unfold maxLen; omega) (by have := dealL_le a zs; unfold maxLen; omega)
  clear hd hbq d1 d2 d3 HPp HIp HRp
  go_wp2_with fail
  refine hsm.mono ?_
  rintro e ws ⟨rfl, qn, hws⟩
  have HPs : Hid _ := HPq.out.drewN qn
  have HIs : Hid _ := K.frame HIq.out ((Chg.refl (fun _ => False) _).drewN qn) (fun _ _ e => e)
  have HRs : Hid _ := ownsRow_same (w' := wq.drewN qn) HRq.out (fun _ _ => rfl)
  rw [← hws] at HPs HIs HRs
  clear hsm hq hws HPq HIq HRq
  have hlow := HLOW.out
  have hpb : ∀ j, (Value.slice po (dealL a zs).length pc).ownBlock = some j → w.heap.size + 1 ≤ j ∧ j ≠ g := fun j hj => by
    have := (ownsRow_lt HRs.out hj).1
    omega
  have hput := K.putI HIs.out (ownsRow_mono HRs.out (by omega)) (fun j hj hb => by have := (hpb j hj).1; have := (K.lt HI0.out hb).2; omega) (by have := dealL_le a zs; omega) (by omega)
  go_wp2_with fail
  refine hput.mono ?_
  rintro e w2 ⟨rfl, s1, hI1, hc1, hch1, hnb1⟩
  have HP2 : Hid _ := HPs.out.put K HI0.out hpb HSRC.out hch1
  have HI2 : Hid _ := hI1
  have HNB : Hid (∀ k, K.bl s1 k → K.bl s k ∨ w.heap.size ≤ k) := fun k hk => by
    rcases hnb1 k hk with q | q | q
    · exact .inl q
    · exact .inr (by have := (hpb k q).1; omega)
    · exact .inr (by have := HPs.out.chg.size; omega)
  have HNG : Hid (¬ K.bl s1 g) := fun hk => by
    rcases hnb1 g hk with q | q | q
    · have := (K.lt HI0.out q).2; omega
    · exact (hpb g q).2 rfl
    · have := HPs.out.low.2; omega
  clear hput hch1 hI1 HPs HIs HRs hpb hnb1
  have hback := back_any (c := c) w2 hl HP2.out.src hn HP2.out.row hcap
  have b3 := HP2.out.c3
  have b0 := HP2.out.c0
  go_wp2_with fail
  refine hback.mono ?_
  rintro e w3 ⟨rfl, hr3, hc3⟩
  have hP3 := HP2.out.over hc3 hr3 (fun h0 b off e => (HSRC.out h0 b off e).1)
  have HI3 : Hid _ := K.frame HI2.out hc3 (fun k hk e => HNG.out (by rw [← e]; exact hk))
  have HP3 : Hid _ := hP3
  have hrow5 := hP3.row
  rw [five] at hrow5
  have HR5 : Hid _ := own_take hrow5 (m := n) (by simp)
  have HF5 : Hid (FromI w3 (some ⟨g, 0, none⟩) (List.replicate n 5)) := by
    obtain ⟨_, _, e, _, _, _, hf, _⟩ := own_from HR5.out
    cases e
    exact hf
  clear hr3 hc3 hP3 hrow5 hback HP2 b3 b0 HI2
  go_wp2_with (first
    | (at_builtin; go_must (refine wpList_copy rfl _ _ rfl rfl (some ⟨g, 0, none⟩) n cap (List.replicate n 5) rfl (by simp) (by intro h; cases h) HF5.out (by omega) ?_))
    | fail)
  intro vo vc w4 h4 hb4
  replace h4 : w4.ownsRow w3.heap.size 3 1 (.slice vo n vc) n ((List.replicate n (5 : Int)).map I) := by rw [List.map_replicate]; exact h4
  have HP4 : Hid _ := HP3.out.more hb4
  have HI4 : Hid _ := K.frame HI3.out (Chg.ofBelow (fun _ => False) hb4) (fun _ _ e => e)
  have HF4 : Hid (FromI w4 (some ⟨g, 0, none⟩) (List.replicate n 5)) := FromI.all HF5.out hb4
  have HG4 : Hid (FromI w4 vo (List.replicate n 5)) := by
    obtain ⟨_, _, e, _, _, _, hf, _⟩ := own_from h4
    cases e
    exact hf
  have b0 := HP4.out.c0
  have b1 := HP4.out.c1
  have b2 := HP4.out.c2
  have b3 := HP4.out.c3
  have hw4s := HP4.out.chg.size
  have hg4 := HP4.out.low.2
  clear h4 hb4 HP3 HR5 HF5 HI3
  have hl5 : (List.replicate n (5 : Int)).length = n := by simp
  have hd := deal_any (c := cap) a w4 hl5 HF4.out hnm
  go_wp2_with fail
  refine hd.mono ?_
  rintro e wp ⟨p, rfl, hp, hbp⟩
  obtain ⟨po, pc, hpv, _⟩ := own_slice hp
  subst hpv
  have HPp : Hid _ := HP4.out.more hbp
  have HIp : Hid _ := K.frame HI4.out (Chg.ofBelow (fun _ => False) hbp) (fun _ _ e => e)
  have d1 := HPp.out.c1
  have d2 := HPp.out.c2
  have d3 := HPp.out.c3
  have HRp : Hid _ := hp
  have HG4p : Hid (FromI wp vo (List.replicate n 5)) := FromI.all HG4.out hbp
  clear hd hp hbp b0 b1 b2 b3
  have hd := rdeal_any (c := vc) a wp hl5 HG4p.out hnm
  go_wp2_with fail
  refine hd.mono ?_
  rintro e wq ⟨q, rfl, hq, hbq⟩
  obtain ⟨qo, qc, hqv, _⟩ := own_slice hq
  subst hqv
  have HPq : Hid _ := HPp.out.more hbq
  have HIq : Hid _ := K.frame HIp.out (Chg.ofBelow (fun _ => False) hbq) (fun _ _ e => e)
  have HRq : Hid _ := ownsRow_same HRp.out (fun j hj => hbq.block j (ownsRow_lt HRp.out hj).2)
  have hsm := same_any (c1 := pc) (c2 := qc) (xs := dealL a (List.replicate n 5)) (ys := dealL a (List.replicate n 5)) wq rfl rfl (by obtain ⟨_, _, e, _, _, _, hf, _⟩ := own_from HRq.out; cases e; exact hf) (by obtain ⟨_, _, e, _, _, _, hf, _⟩ := own_from hq; cases e; exact hf) (by have := dealL_le a (List.replicate n 5); unfold maxLen; omega) (by have := dealL_le a (List.replicate n 5); unfold maxLen; omega)
  clear hd hbq d1 d2 d3 HPp HIp HRp
  go_wp2_with fail
  refine hsm.mono ?_
  rintro e ws ⟨rfl, qn, hws⟩
  have HPs : Hid _ := HPq.out.drewN qn
  have HIs : Hid _ := K.frame HIq.out ((Chg.refl (fun _ => False) _).drewN qn) (fun _ _ e => e)
  have HRs : Hid _ := ownsRow_same (w' := wq.drewN qn) HRq.out (fun _ _ => rfl)
  rw [← hws] at HPs HIs HRs
  clear hsm hq hws HPq HIq HRq
  have hlow := HLOW.out
  have hpb : ∀ j, (Value.slice po (dealL a (List.replicate n 5)).length pc).ownBlock = some j → w4.heap.size ≤ j := fun j hj => (ownsRow_lt HRs.out hj).1
  have hput := K.putI HIs.out (ownsRow_mono HRs.out (by omega)) (fun j hj hb => by have := hpb j hj; have := (K.lt HI4.out hb).2; omega) (by have := dealL_le a (List.replicate n 5); omega) (by omega)
  go_wp2_with fail
  refine hput.mono ?_
  rintro e w5 ⟨rfl, s2, hI2, hc2, hch2, hnb2⟩
  have HR : Hid (K.Inv s2 w5 ∧ K.cnt s2 ≤ K.cnt s + 36 ∧ Chg (K.bl s) w w5 ∧ ∀ k, K.bl s2 k → K.bl s k ∨ w.heap.size ≤ k) := by
    refine ⟨hI2, by omega, HPs.out.chg.trans hch2 (fun j hj hb => ?_), fun k hk => ?_⟩
    · rcases hb with q | q
      · rcases HNB.out j q with q | q
        · exact q
        · omega
      · have := hpb j q; omega
    · rcases hnb2 k hk with q | q | q
      · exact HNB.out k q
      · exact .inr (by have := hpb k q; omega)
      · exact .inr (by have := HPs.out.chg.size; omega)
  clear hput hI2 hch2 HPs HIs HRs hpb hnb2 hc2
  go_wp2
  go_ret
  exact ⟨rfl, s2, HR.out⟩
end Go.Proofs.Ytgohjkamikpdcaa
