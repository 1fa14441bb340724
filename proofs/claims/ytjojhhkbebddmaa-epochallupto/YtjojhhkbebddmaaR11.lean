import Derived.Test.YtjojhhkbebddmaaR10
namespace Go.Proofs.Ytjojhhkbebddmaa
open Go.RowKit Go.PlainAid
set_option linter.unusedVariables false
set_option linter.unusedSimpArgs false
theorem endK_e0 (x : EV) : endK x e0 = x := by
  unfold endK other e0
  rw [if_neg]
  simp
theorem endR_e0 (x : EV) (r : RV) : endR x r e0 = r := by
  unfold endR other e0
  rw [if_neg]
  simp
/-- Two variables and the machine. -/
structure RT (L p q : Nat) (a b tr tk : Int) (g0 g : RG) (w : World) (r : RV) (W : World) : Prop where
  b4 : Blk W p #[.int .i64 a, .int .i64 b] 49
  b7 : Blk W q #[.int .i64 tr, .int .i64 tk] 49
  rm : RM L g r W
  st : RStp g0 g w W
  nb : ¬ rown g p ∧ ¬ rown g q
section
variable {L p q : Nat} {a b tr tk : Int} {g0 g g' : RG} {w W W' : World} {r r' : RV}
theorem RT.up (h : RT L p q a b tr tk g0 g w r W) (hb : Below W.heap.size W W') : RT L p q a b tr tk g0 g w r W' := ⟨h.b4.up hb, h.b7.up hb, h.rm.more hb, h.st.trans (RStp.refl hb), h.nb⟩
theorem RT.go (h : RT L p q a b tr tk g0 g w r W) (hm : RM L g' r' W') (hs : RStp g g' W W') : RT L p q a b tr tk g0 g' w r' W' := by
  refine ⟨hs.2.1.blk h.b4 h.nb.1, hs.2.1.blk h.b7 h.nb.2, hm, h.st.trans hs, fun e => ?_, fun e => ?_⟩
  · rcases hs.2.2 _ e with q1 | q1
    · exact h.nb.1 q1
    · have := h.b4.lt; omega
  · rcases hs.2.2 _ e with q1 | q1
    · exact h.nb.2 q1
    · have := h.b7.lt; omega
theorem RT.cells (h : RT L p q a b tr tk g0 g w r W) : (W.cell? ⟨p, 0, none⟩ = some (.int .i64 a) ∧ W.cell? ⟨p, 1, none⟩ = some (.int .i64 b)) ∧ W.cell? ⟨q, 0, none⟩ = some (.int .i64 tr) ∧ W.cell? ⟨q, 1, none⟩ = some (.int .i64 tk) := ⟨⟨h.b4.cell 0, h.b4.cell 1⟩, h.b7.cell 0, h.b7.cell 1⟩
end
set_option maxRecDepth 100000 in
set_option maxHeartbeats 6400000 in
theorem rhear_any {L : Nat} {g : RG} {x : EV} {r : RV} (e : Ep) (w : World) (h : RM L g r w) (ha : Agr x r) (hx : x.Nm) (hlen : r.kn.length ≤ 999999990 ∧ r.ov.length ≤ 999999990) : Calls Try.prog 48 #[.pointer (some ⟨g.rb, 0, none⟩), epV e] w fun q w' => ∃ v, q = .returned v ∧ w'.ownsRow w.heap.size 117 6 v (enA x e0 e).length (flatA (enA x e0 e)) ∧ ∃ g', RM L g' (enR x r e0 e) w' ∧ RStp g g' w w' := by
  obtain ⟨a, b⟩ := e
  obtain ⟨tr, tk, hT⟩ : ∃ tr tk, tgtE x x.n = ⟨tr, tk⟩ := ⟨_, _, rfl⟩
  have HM : Hid _ := h
  have HA : Hid _ := ha
  have HX : Hid _ := hx
  have HT : Hid (∀ W, Below w.heap.size w W → Calls Try.prog 70 #[.pointer (some ⟨g.rb, 0, none⟩)] W fun e w' => e = .returned (epV ⟨tr, tk⟩) ∧ Below W.heap.size W w') := fun W hW => by rw [← hT]; exact rtarget_any W (h.more hW) ha hx
  have HTT : Hid _ := hT
  have HLEN : Hid _ := hlen
  clear h ha hx hT hlen
  unfold epV at *
  go_enter Try.func48, Try.ntmps48
  go_upto_region 2 with (first
    | (go_at_call 70; refine Calls.mono (HT.out _ ((Below.refl _ _).alloc (Nat.le_refl _) _)) ?_; rintro e w1 ⟨rfl, hb1⟩)
    | fail)
  have hsz : w.heap.size < w1.heap.size := by
    have h1 := hb1.size
    rw [World.size_alloc] at h1
    omega
  have hS : RT L w.heap.size w1.heap.size a b tr tk g g w r (w1.alloc (.cells #[.int .i64 tr, .int .i64 tk] 49)) := by
    have h0 : Blk (w.alloc (.cells #[.int .i64 a, .int .i64 b] 49)) w.heap.size #[.int .i64 a, .int .i64 b] 49 := heap_alloc_new w _
    have hbb : Below w.heap.size w (w1.alloc (.cells #[.int .i64 tr, .int .i64 tk] 49)) := bal (bgo (bal (Below.refl _ _) (Nat.le_refl _) _) hb1 (Nat.le_refl _)) (Nat.le_refl _) _
    exact ⟨(h0.up hb1).allc _, heap_alloc_new w1 _, HM.out.more hbb, RStp.refl hbb, fun e => by have := (HM.out.lt e).2; omega, fun e => by have := (HM.out.lt e).2; omega⟩
  obtain ⟨p, hp⟩ : ∃ p, p = w.heap.size := ⟨_, rfl⟩
  obtain ⟨q, hq⟩ : ∃ q, q = w1.heap.size := ⟨_, rfl⟩
  generalize w1.alloc (.cells #[.int .i64 tr, .int .i64 tk] 49) = W at *
  rw [← hp, ← hq] at hS
  try rw [← hp]
  try rw [← hq]
  have HS1 : Hid _ := hS
  have HTO : Hid _ := told_any (x := x) ⟨a, b⟩ W hS.rm HA.out.me HA.out.n (by have := HLEN.out.1; omega)
  unfold epV at HTO
  obtain ⟨⟨p0, p1⟩, p4, p5⟩ := hS.cells
  have HP : Hid _ := hp
  have HQ : Hid _ := hq
  clear hS hp hq hb1 hsz HT
  go_upto_region 3 with (first
    | (go_at_call 71; refine Calls.mono HTO.out ?_; rintro e w4 ⟨rfl, g4, hm4, hs4⟩)
    | fail)
  obtain ⟨rb4, vk4, vo4, vn4⟩ := g4
  have hrb4 : rb4 = g.rb := hs4.1
  subst hrb4
  have HS4 : Hid _ := HS1.out.go hm4 hs4
  have HAG : Hid (Agr (hearK x ⟨a, b⟩) (toldR x r ⟨a, b⟩)) := show Agr _ _ from HA.out.told ⟨a, b⟩
  have HTU : Hid _ := rturn_any (x := hearK x ⟨a, b⟩) (⟨tr, tk⟩ : Ep) w4 HS4.out.rm HAG.out (HX.out.hearK _) (by have := HLEN.out.2; unfold toldR; split <;> simp <;> omega) (by have := tgt_ok HA.out; rw [HTT.out] at this; exact this)
  unfold epV at HTU
  clear p0 p1 p4 p5 hm4 hs4 HTO HS1
  obtain ⟨⟨p0, p1⟩, p4, p5⟩ := HS4.out.cells
  go_wp2_with (first
    | (go_at_call 72; refine Calls.mono HTU.out ?_; rintro e w5 ⟨v5, rfl, ho5, g5, hm5, hs5⟩)
    | fail)
  go_ret
  have hen : enR x r e0 ⟨a, b⟩ = turnR (hearK x ⟨a, b⟩) (toldR x r ⟨a, b⟩) := by unfold enR; rw [endK_e0, endR_e0]
  have hac : enA x e0 ⟨a, b⟩ = turnA (hearK x ⟨a, b⟩) ⟨tr, tk⟩ := by unfold enA; rw [HTT.out, endK_e0]
  rw [hen, hac]
  exact ⟨v5, rfl, ownsRow_mono ho5 HS4.out.st.2.1.size, g5, hm5, HS4.out.st.trans hs5⟩
def finR (x : EV) (r : RV) : RV := if liveE x x.me = e0 then r else turnR (endX x) { r with ov := r.ov ++ [liveE x x.me] }
theorem Agr.fi_none {x : EV} {r : RV} (ha : Agr x r) (ho : liveE x x.me = e0) : (endX x).fi = x.fi := by
  have hke : x.kn x.me = x.fi x.me := by
    by_cases p : x.kn x.me = x.fi x.me
    · exact p
    · have h1 := ha.fk x.me
      have : liveE x x.me = ⟨x.kn x.me, x.me⟩ := by unfold liveE; rw [if_neg p]
      have h3 := congrArg Ep.r (this.symm.trans ho)
      have e1 : e0.r = 0 := rfl
      simp only [e1] at h3
      omega
  funext j
  show up x.fi x.me (x.kn x.me) j = x.fi j
  by_cases p : j = x.me
  · subst p; rw [up_at, hke]
  · rw [up_ne _ _ p]
theorem tgtE_same {x y : EV} (h1 : x.kn = y.kn) (h2 : x.fi = y.fi) : ∀ n, tgtE x n = tgtE y n
  | 0 => rfl
  | n + 1 => by
    have e : liveE x n = liveE y n := liveE_eq (by rw [h1]) (by rw [h2])
    show (if higher (liveE x n) (tgtE x n) = true then liveE x n else tgtE x n) = (if higher (liveE y n) (tgtE y n) = true then liveE y n else tgtE y n)
    rw [e, tgtE_same h1 h2 n]
theorem finA_none {x : EV} {r : RV} (ha : Agr x r) (ho : liveE x x.me = e0) : finA x = [] := by
  unfold finA turnA
  have e1 : liveE (endX x) (endX x).me = e0 := liveE_endX x
  have e2 : tgtE (endX x) (endX x).n = tgtE x x.n := tgtE_same (x := endX x) (y := x) rfl (ha.fi_none ho) x.n
  simp only [e1, e2]
  by_cases ht : tgtE x x.n = e0
  · simp [ht]
  · simp [ht]
theorem Agr.fin {x : EV} {r : RV} (ha : Agr x r) : Agr (finX x) (finR x r) := by
  unfold finX finR
  by_cases ho : liveE x x.me = e0
  · rw [if_pos ho]
    have := (ha.noOwn ho).turn (tgtE x x.n)
    unfold turnRV at this
    rw [if_neg (fun h => h.1 (liveE_endX x))] at this
    exact this
  · rw [if_neg ho]
    exact (ha.own ho).turn _
set_option maxRecDepth 100000 in
set_option maxHeartbeats 6400000 in
theorem rfin_1 {L : Nat} {g : RG} {x : EV} {r : RV} (er ek tr tk : Int) (w : World) (h : RM L g r w) (ha : Agr x r) (hx : x.Nm) (hT : tgtE x x.n = ⟨tr, tk⟩) (hE : liveE x x.me = ⟨er, ek⟩) (d1 : (er == 0) = true) : Calls Try.prog 52 #[.pointer (some ⟨g.rb, 0, none⟩)] w fun e w' => e = .returned (.slice none 0 0) ∧ Below w.heap.size w w' := by
  have HT : Hid (∀ W, Below w.heap.size w W → Calls Try.prog 70 #[.pointer (some ⟨g.rb, 0, none⟩)] W fun e w' => e = .returned (epV ⟨tr, tk⟩) ∧ Below W.heap.size W w') := fun W hW => by rw [← hT]; exact rtarget_any W (h.more hW) ha hx
  have HO : Hid (∀ W, Below w.heap.size w W → Calls Try.prog 46 #[.pointer (some ⟨g.rb, 0, none⟩)] W fun e w' => e = .returned (epV ⟨er, ek⟩) ∧ Below W.heap.size W w') := fun W hW => by rw [← hE]; exact rown_any W (h.more hW) ha hx
  clear h ha hx hT hE
  unfold epV at *
  go_enter Try.func52, Try.ntmps52
  go_upto_region 3 with (first
    | (go_at_call 70; refine Calls.mono (HT.out _ (Below.refl _ _)) ?_; rintro e w1 ⟨rfl, hb1⟩)
    | (go_at_call 46; refine Calls.mono (HO.out _ (bal hb1 (Nat.le_refl _) _)) ?_; rintro e w2 ⟨rfl, hb2⟩)
    | fail)
  have hB : Blk (w2.alloc (.cells #[.int .i64 er, .int .i64 ek] 49)) w2.heap.size #[.int .i64 er, .int .i64 ek] 49 := heap_alloc_new w2 _
  have hbb : Below w.heap.size w (w2.alloc (.cells #[.int .i64 er, .int .i64 ek] 49)) := bal (bgo (bal hb1 (Nat.le_refl _) _) hb2 (Nat.le_refl _)) (Nat.le_refl _) _
  have p0 := hB.cell 0
  have HBB : Hid _ := hbb
  generalize w2.alloc (.cells #[.int .i64 er, .int .i64 ek] 49) = W at *
  clear hB hbb hb1 hb2
  go_wp2_with fail
  go_ret
  exact ⟨rfl, HBB.out⟩
set_option maxRecDepth 100000 in
set_option maxHeartbeats 6400000 in
theorem rfin_2 {L : Nat} {g : RG} {x : EV} {r : RV} (er ek tr tk : Int) (w : World) (h : RM L g r w) (ha : Agr x r) (hx : x.Nm) (hlen : r.ov.length ≤ 999999990) (hT : tgtE x x.n = ⟨tr, tk⟩) (hE : liveE x x.me = ⟨er, ek⟩) (hne : liveE x x.me ≠ e0) (d1 : (er == 0) = false) : Calls Try.prog 52 #[.pointer (some ⟨g.rb, 0, none⟩)] w fun e w' => ∃ v, e = .returned v ∧ w'.ownsRow w.heap.size 117 6 v (finA x).length (flatA (finA x)) ∧ ∃ g', RM L g' (finR x r) w' ∧ RStp g g' w w' := by
  have HM : Hid _ := h
  have HA : Hid _ := ha
  have HX : Hid _ := hx
  have HLEN : Hid (r.ov.length ≤ 1000000000) := show r.ov.length ≤ 1000000000 from by omega
  have HLEN2 : Hid (r.ov.length ≤ 999999990) := hlen
  have HEE : Hid _ := hE
  have HTT : Hid _ := hT
  have HNE : Hid _ := hne
  have HT : Hid (∀ W, Below w.heap.size w W → Calls Try.prog 70 #[.pointer (some ⟨g.rb, 0, none⟩)] W fun e w' => e = .returned (epV ⟨tr, tk⟩) ∧ Below W.heap.size W w') := fun W hW => by rw [← hT]; exact rtarget_any W (h.more hW) ha hx
  have HO : Hid (∀ W, Below w.heap.size w W → Calls Try.prog 46 #[.pointer (some ⟨g.rb, 0, none⟩)] W fun e w' => e = .returned (epV ⟨er, ek⟩) ∧ Below W.heap.size W w') := fun W hW => by rw [← hE]; exact rown_any W (h.more hW) ha hx
  clear h ha hx hT hE hlen hne
  unfold epV at *
  go_enter Try.func52, Try.ntmps52
  go_upto_region 3 with (first
    | (go_at_call 70; refine Calls.mono (HT.out _ (Below.refl _ _)) ?_; rintro e w1 ⟨rfl, hb1⟩)
    | (go_at_call 46; refine Calls.mono (HO.out _ (bal hb1 (Nat.le_refl _) _)) ?_; rintro e w2 ⟨rfl, hb2⟩)
    | fail)
  have hS : RT L w1.heap.size w2.heap.size tr tk er ek g g w r (w2.alloc (.cells #[.int .i64 er, .int .i64 ek] 49)) := by
    have h0 : Blk (w1.alloc (.cells #[.int .i64 tr, .int .i64 tk] 49)) w1.heap.size #[.int .i64 tr, .int .i64 tk] 49 := heap_alloc_new w1 _
    have hbb : Below w.heap.size w (w2.alloc (.cells #[.int .i64 er, .int .i64 ek] 49)) := bal (bgo (bal hb1 (Nat.le_refl _) _) hb2 (Nat.le_refl _)) (Nat.le_refl _) _
    have hz1 := hb1.size
    have hz2 := hb2.size
    rw [World.size_alloc] at hz2
    exact ⟨(h0.up hb2).allc _, heap_alloc_new w2 _, HM.out.more hbb, RStp.refl hbb, fun e => by have := (HM.out.lt e).2; omega, fun e => by have := (HM.out.lt e).2; omega⟩
  obtain ⟨p, hp⟩ : ∃ p, p = w1.heap.size := ⟨_, rfl⟩
  obtain ⟨q, hq⟩ : ∃ q, q = w2.heap.size := ⟨_, rfl⟩
  generalize w2.alloc (.cells #[.int .i64 er, .int .i64 ek] 49) = W at *
  rw [← hp, ← hq] at hS
  try rw [← hp]
  try rw [← hq]
  have HS1 : Hid _ := hS
  have HQN : Hid (¬ rown g q) := hS.nb.2
  have HBX : Hid (Blk W q #[.int .i64 er, .int .i64 ek] 49) := hS.b7
  have HMX : Hid (RM L g r W) := hS.rm
  obtain ⟨⟨p0, p1⟩, p4, p5⟩ := hS.cells
  have HP : Hid _ := hp
  have HQ : Hid _ := hq
  clear hS hp hq hb1 hb2 HT HO
  go_upto_region 5 with fail
  rename_i K hK
  try rw [show ∀ a : Act, a.put none undef = a from fun _ => rfl]
  have hDR : Below W.heap.size W ({ W with drawn := W.drawn + 1 } : World) := (Below.refl _ _).drew
  have HMD : Hid (RM L g r ({ W with drawn := W.drawn + 1 } : World)) := show RM L g r _ from HMX.out.more hDR
  obtain ⟨v8, w8, hr8, hB8, hC8, hR8, hS8⟩ := HMD.out.addO ⟨er, ek⟩ HLEN.out
  obtain ⟨ao8, n8, c8, hv8⟩ : ∃ ao n c, v8 = Value.slice ao n c := by obtain ⟨ao, c, h, _⟩ := own_slice hR8.o; exact ⟨_, _, _, h⟩
  subst hv8
  have HR8 : Hid _ := hR8
  have HS8 : Hid _ := hS8
  clear hR8 hS8
  have HC0 : (fun wz : World => wz.cell? ⟨g.rb, 3, none⟩ = some (g.vo) ∧ Blk wz (q) #[.int .i64 er, .int .i64 ek] 49) ({ W with drawn := W.drawn + 1 } : World) := ⟨HMD.out.c3, HBX.out⟩
  have hqn : (g.vo).ownBlock ≠ some (q) := fun e => HQN.out (.inr (.inr (.inl e)))
  have HCA : (fun wz : World => wz.cell? ⟨g.rb, 3, none⟩ = some (g.vo) ∧ Blk wz (q) #[.int .i64 er, .int .i64 ek] 49) (World.alloc ({ W with drawn := W.drawn + 1 } : World) (.cells #[.int .i64 er, .int .i64 ek] 49)) := ⟨(Below.cell (Below.alloc (Below.refl _ _) (Nat.le_refl _) _) (World.block_lt_of_cell? _ _ HC0.1)).trans HC0.1, Blk.allc HC0.2 _⟩
  have HC9 : (fun wz : World => wz.cell? ⟨g.rb, 3, none⟩ = some (g.vo) ∧ Blk wz (q) #[.int .i64 er, .int .i64 ek] 49) w8 := ⟨(hB8.cell 3).trans rfl, hC8.blk HC0.2 hqn⟩
  refine wp_region_mix (fun wz : World => wz.cell? ⟨g.rb, 3, none⟩ = some (g.vo) ∧ Blk wz (q) #[.int .i64 er, .int .i64 ek] 49) (fun i => i == 6 || i == 7 || i == 10) 10 (by kernel_rfl) rfl (by kernel_rfl) (by kernel_rfl) (by kernel_rfl) ?_
  refine withFrP (N := 25) rfl ?_
  intro f0 F0 hff
  have ee0 : f0 0 = Value.pointer (some ⟨g.rb, 0, none⟩) := hff 0
  have ee1 : f0 4 = Value.pointer (some ⟨q, 0, none⟩) := hff 4
  clear hff
  refine lyp F0 rfl HC0 rfl (by omega) (wanted_none rfl) (v := Value.pointer (some ⟨g.rb, 0, none⟩)) (fun wr hwr => by simp only [execOp, (F0.eval 0 (by omega)).trans (show _ = Value.pointer (some ⟨g.rb, 0, none⟩) from by simp [upd, ee0, ee1])]; first | rfl | simp [go_sem]) fun F1 => ?_
  refine lyp F1 rfl HC0 rfl (by omega) (wanted_none rfl) (v := Value.pointer (some ⟨g.rb, 0, none⟩)) (fun wr hwr => by simp only [execOp, (F1.eval 0 (by omega)).trans (show _ = Value.pointer (some ⟨g.rb, 0, none⟩) from by simp [upd, ee0, ee1])]; first | rfl | simp [go_sem]) fun F2 => ?_
  refine lyp F2 rfl HC0 rfl (by omega) (wanted_none rfl) (v := Value.pointer (some ⟨g.rb, 0, none⟩)) (fun wr hwr => by simp only [execOp, (F2.eval 13 (by omega)).trans (show _ = Value.pointer (some ⟨g.rb, 0, none⟩) from by simp [upd, ee0, ee1])]; simp [go_sem]) fun F3 => ?_
  refine lyp F3 rfl HC0 rfl (by omega) (wanted_none rfl) (v := Value.pointer (some ⟨g.rb, 3, none⟩)) (fun wr hwr => by simp only [execOp, (F3.eval 14 (by omega)).trans (show _ = Value.pointer (some ⟨g.rb, 0, none⟩) from by simp [upd, ee0, ee1])]; simp [go_sem]) fun F4 => ?_
  refine lyp F4 rfl HC0 rfl (by omega) (wanted_none rfl) (v := (g.vo)) (fun wr hwr => by simp only [execOp, (F4.eval 15 (by omega)).trans (show _ = Value.pointer (some ⟨g.rb, 3, none⟩) from by simp [upd, ee0, ee1])]; simp [go_sem, hwr.1]) fun F5 => ?_
  refine lyp F5 rfl HC0 rfl (by omega) (wanted_none rfl) (v := Value.agg #[Value.int .i64 er, Value.int .i64 ek]) (fun wr hwr => by simp only [execOp, (F5.eval 4 (by omega)).trans (show _ = Value.pointer (some ⟨q, 0, none⟩) from by simp [upd, ee0, ee1])]; have h0 := hwr.2.cell 0; have h1 := hwr.2.cell 1; simp [go_sem, h0, h1]) fun F6 => ?_
  refine lep F6 rfl HC0 rfl (by omega) (wanted_none rfl) (v := Value.slice (some ⟨({ W with drawn := W.drawn + 1 } : World).heap.size, 0, none⟩) 1 1) (w1 := (World.alloc ({ W with drawn := W.drawn + 1 } : World) (.cells #[.int .i64 er, .int .i64 ek] 49))) (by simp only [execOp, List.map_toArray, List.map_cons, List.map_nil, (F6.eval 17 (by omega)).trans (show _ = Value.agg #[Value.int .i64 er, Value.int .i64 ek] from by simp [upd, ee0, ee1])]; simp [go_sem]) fun F7 => ?_
  refine lep F7 rfl HCA rfl (by omega) (wanted_none rfl) (v := Value.slice ao8 n8 c8) (w1 := w8) (by simp only [execOp, resolve, invoke, builtin, List.map_toArray, List.map_cons, List.map_nil, (F7.eval 16 (by omega)).trans (show _ = (g.vo) from by simp [upd, ee0, ee1]), (F7.eval 18 (by omega)).trans (show _ = Value.slice (some ⟨({ W with drawn := W.drawn + 1 } : World).heap.size, 0, none⟩) 1 1 from by simp [upd, ee0, ee1])]; simp only [Sem.run_bind, Sem.run_pure, Result.andThen_ok, hr8]; try rfl) fun F8 => ?_
  refine lyp F8 rfl HC9 rfl (by omega) (wanted_none rfl) (v := Value.pointer (some ⟨g.rb, 0, none⟩)) (fun wr hwr => by simp only [execOp, (F8.eval 12 (by omega)).trans (show _ = Value.pointer (some ⟨g.rb, 0, none⟩) from by simp [upd, ee0, ee1])]; simp [go_sem]) fun F9 => ?_
  refine lyp F9 rfl HC9 rfl (by omega) (wanted_none rfl) (v := Value.pointer (some ⟨g.rb, 3, none⟩)) (fun wr hwr => by simp only [execOp, (F9.eval 20 (by omega)).trans (show _ = Value.pointer (some ⟨g.rb, 0, none⟩) from by simp [upd, ee0, ee1])]; simp [go_sem]) fun F10 => ?_
  refine lst rfl HC9 rfl (wanted_none rfl) (w1 := w8.setCell ⟨g.rb, 3, none⟩ (Value.slice ao8 n8 c8)) (by simp only [execOp, (F10.eval 21 (by omega)).trans (show _ = Value.pointer (some ⟨g.rb, 3, none⟩) from by simp [upd, ee0, ee1]), (F10.eval 19 (by omega)).trans (show _ = Value.slice ao8 n8 c8 from by simp [upd, ee0, ee1])]; simp [go_sem, hB8.frozen 3, show w8.cell? ⟨g.rb, 3, none⟩ = some (g.vo) from HC9.1]) ?_
  refine ⟨fun h => by omega, ?_⟩
  refine hK _ _ ?_
  clear F0 F1 F2 F3 F4 F5 F6 F7 F8 F9 F10 ee0 ee1 HC0 HCA HC9 hr8 hB8 hqn hC8 HMD
  simp only [Act.put, List.setIfInBounds_toArray, List.set_cons_succ, List.set_cons_zero]
  have HS2 : Hid _ := (HS1.out.up hDR).go HR8.out HS8.out
  clear HR8 HS8 HMX HS1 hDR HBX HQN p0 p1 p4 p5
  generalize hW9 : w8.setCell ⟨g.rb, 3, none⟩ (Value.slice ao8 n8 c8) = W9 at *
  have HAG : Hid (Agr (endX x) { r with ov := r.ov ++ [⟨er, ek⟩] }) := show Agr _ _ from by rw [← HEE.out]; exact HA.out.own HNE.out
  have HTU : Hid _ := rturn_any (x := endX x) (⟨tr, tk⟩ : Ep) W9 HS2.out.rm HAG.out HX.out.endX (by have := HLEN2.out; simp; omega) (by have := tgt_ok HA.out; rw [HTT.out] at this; exact this)
  unfold epV at HTU
  obtain ⟨⟨p0, p1⟩, p4, p5⟩ := HS2.out.cells
  go_wp2_with (first
    | (go_at_call 72; refine Calls.mono HTU.out ?_; rintro e w5 ⟨v5, rfl, ho5, g5, hm5, hs5⟩)
    | fail)
  go_ret
  have hen : finR x r = turnR (endX x) { r with ov := r.ov ++ [⟨er, ek⟩] } := by unfold finR; rw [if_neg HNE.out, HEE.out]
  have hac : finA x = turnA (endX x) ⟨tr, tk⟩ := by unfold finA; rw [HTT.out]
  rw [hen, hac]
  exact ⟨v5, rfl, ownsRow_mono ho5 HS2.out.st.2.1.size, g5, hm5, HS2.out.st.trans hs5⟩
theorem rfin_any {L : Nat} {g : RG} {x : EV} {r : RV} (w : World) (h : RM L g r w) (ha : Agr x r) (hx : x.Nm) (hlen : r.ov.length ≤ 999999990) : Calls Try.prog 52 #[.pointer (some ⟨g.rb, 0, none⟩)] w fun e w' => ∃ v, e = .returned v ∧ w'.ownsRow w.heap.size 117 6 v (finA x).length (flatA (finA x)) ∧ ∃ g', RM L g' (finR x r) w' ∧ RStp g g' w w' := by
  obtain ⟨er, ek, hE⟩ : ∃ er ek, liveE x x.me = ⟨er, ek⟩ := ⟨_, _, rfl⟩
  obtain ⟨tr, tk, hT⟩ : ∃ tr tk, tgtE x x.n = ⟨tr, tk⟩ := ⟨_, _, rfl⟩
  have hor := liveE_nn ha x.me
  by_cases ho : liveE x x.me = e0
  · have d1 : (er == 0) = true := by
      have := congrArg Ep.r (hE.symm.trans ho)
      simpa [e0] using this
    refine (rfin_1 er ek tr tk w h ha hx hT hE d1).mono ?_
    rintro e w' ⟨rfl, hb⟩
    rw [finA_none ha ho]
    unfold finR
    rw [if_pos ho]
    exact ⟨_, rfl, World.ownsRow_nil _ _ _ _, g, h.more hb, RStp.refl hb⟩
  · have d1 : (er == 0) = false := by
      rcases hor with q | ⟨q, q2⟩
      · exact absurd q ho
      · have := congrArg Ep.r (hE.symm.trans q)
        simp only at this
        simp
        omega
    exact rfin_2 er ek tr tk w h ha hx hlen hT hE ho d1
set_option maxRecDepth 100000 in
set_option maxHeartbeats 3200000 in
theorem rnew_no (me n : Int) (w : World) (h : newC me n ≠ 0) : Calls Try.prog 45 #[.int .i64 me, .int .i64 n] w fun e w' => e = .returned (.tuple #[.pointer none, .int .i64 (newC me n)]) ∧ w' = w := by
  by_cases h1 : n < 2
  · have hc : newC me n = 1 := by unfold newC; rw [if_pos (.inl h1)]
    rw [hc]
    clear h hc
    go_enter Try.func45, Try.ntmps45
    go_wp2
    go_ret2
    exact ⟨rfl, rfl⟩
  · by_cases h2 : 16 < n
    · have hc : newC me n = 1 := by unfold newC; rw [if_pos (.inr h2)]
      rw [hc]
      clear h hc
      go_enter Try.func45, Try.ntmps45
      go_wp2
      go_ret2
      exact ⟨rfl, rfl⟩
    · by_cases h3 : me < 0
      · have hc : newC me n = 3 := by unfold newC; rw [if_neg (by omega), if_pos (.inl h3)]
        rw [hc]
        clear h hc
        go_enter Try.func45, Try.ntmps45
        go_wp2
        go_ret2
        exact ⟨rfl, rfl⟩
      · by_cases h4 : n ≤ me
        · have hc : newC me n = 3 := by unfold newC; rw [if_neg (by omega), if_pos (.inr h4)]
          rw [hc]
          clear h hc
          go_enter Try.func45, Try.ntmps45
          go_wp2
          go_ret2
          exact ⟨rfl, rfl⟩
        · exact absurd (by unfold newC; rw [if_neg (by omega), if_neg (by omega)]) h
theorem newC_bd {me n : Nat} (h : newC me n = 0) : 2 ≤ n ∧ n ≤ 16 ∧ me < n := by
  unfold newC at h
  by_cases q : (n : Int) < 2 ∨ (16 : Int) < (n : Int)
  · rw [if_pos q] at h; cases h
  · rw [if_neg q] at h
    by_cases q2 : (me : Int) < 0 ∨ (n : Int) ≤ (me : Int)
    · rw [if_pos q2] at h; cases h
    · omega
set_option maxRecDepth 100000 in
set_option maxHeartbeats 3200000 in
theorem rnew_yes (me n : Nat) (w : World) (h : newC me n = 0) : Calls Try.prog 45 #[.int .i64 (me : Int), .int .i64 (n : Int)] w fun e w' => e = .returned (.tuple #[.pointer (some ⟨w.heap.size, 0, none⟩), .int .i64 0]) ∧ RM w.heap.size ⟨w.heap.size, .slice none 0 0, .slice none 0 0, .slice none 0 0⟩ ⟨me, n, [], [], [], false⟩ w' ∧ Below w.heap.size w w' := by
  obtain ⟨a1, a2, a3⟩ := newC_bd h
  clear h
  go_enter Try.func45, Try.ntmps45
  go_wp2
  go_ret2
  refine ⟨rfl, ⟨heap_alloc_new w _, World.ownsRow_nil _ _ _ _, World.ownsRow_nil _ _ _ _, World.ownsRow_nil _ _ _ _, fun q e => (by cases e), Nat.le_refl _⟩, (Below.refl _ _).alloc (Nat.le_refl _) _⟩
end Go.Proofs.Ytjojhhkbebddmaa
