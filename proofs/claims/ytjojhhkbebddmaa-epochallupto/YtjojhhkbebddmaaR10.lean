import Derived.Test.YtjojhhkbebddmaaR8
import Derived.Test.YtjojhhkbebddmaaR9
namespace Go.Proofs.Ytjojhhkbebddmaa
open Go.RowKit Go.PlainAid
set_option linter.unusedVariables false
set_option linter.unusedSimpArgs false
/-- What a call of the document's machine has in memory: its variables at p, p + 1 and q, and the machine. -/
structure RS (L p q : Nat) (a b c d tr tk : Int) (g0 g : RG) (w : World) (r : RV) (W : World) : Prop where
  eb : EB p q a b c d tr tk W
  rm : RM L g r W
  st : RStp g0 g w W
  nb : ¬ rown g p ∧ ¬ rown g (p + 1) ∧ ¬ rown g q
section
variable {L p q : Nat} {a b c d tr tk : Int} {g0 g g' : RG} {w W W' : World} {r r' : RV}
theorem RS.up (h : RS L p q a b c d tr tk g0 g w r W) (hb : Below W.heap.size W W') : RS L p q a b c d tr tk g0 g w r W' := ⟨h.eb.up hb, h.rm.more hb, h.st.trans (RStp.refl hb), h.nb⟩
theorem RS.go (h : RS L p q a b c d tr tk g0 g w r W) (hm : RM L g' r' W') (hs : RStp g g' W W') : RS L p q a b c d tr tk g0 g' w r' W' := by
  refine ⟨h.eb.keep hs.2.1 h.nb.1 h.nb.2.1 h.nb.2.2, hm, h.st.trans hs, fun e => ?_, fun e => ?_, fun e => ?_⟩
  · rcases hs.2.2 _ e with q1 | q1
    · exact h.nb.1 q1
    · have := h.eb.b4.lt; omega
  · rcases hs.2.2 _ e with q1 | q1
    · exact h.nb.2.1 q1
    · have := h.eb.b5.lt; omega
  · rcases hs.2.2 _ e with q1 | q1
    · exact h.nb.2.2 q1
    · have := h.eb.b7.lt; omega
end
theorem rend_start {L : Nat} {g : RG} {r : RV} (a b c d tr tk : Int) (w w1 : World) (hM : RM L g r w) (hb1 : Below (w.heap.size + 1 + 1) ((w.alloc (.cells #[.int .i64 a, .int .i64 b] 49)).alloc (.cells #[.int .i64 c, .int .i64 d] 49)) w1) :
    RS L w.heap.size w1.heap.size a b c d tr tk g g w r (w1.alloc (.cells #[.int .i64 tr, .int .i64 tk] 49)) := by
  have hsz : w.heap.size + 1 < w1.heap.size := by
    have h1 := hb1.size
    simp only [World.size_alloc] at h1
    omega
  have h0 : Blk (w.alloc (.cells #[.int .i64 a, .int .i64 b] 49)) w.heap.size #[.int .i64 a, .int .i64 b] 49 := heap_alloc_new w _
  have h2 := heap_alloc_new (w.alloc (.cells #[.int .i64 a, .int .i64 b] 49)) (.cells #[.int .i64 c, .int .i64 d] 49)
  simp only [World.size_alloc] at h2
  have hbb : Below w.heap.size w (w1.alloc (.cells #[.int .i64 tr, .int .i64 tk] 49)) := bal (bgo (bal (bal (Below.refl _ _) (Nat.le_refl _) _) (Nat.le_refl _) _) (by simpa using hb1) (Nat.le_refl _)) (Nat.le_refl _) _
  refine ⟨⟨?_, ?_, heap_alloc_new w1 _⟩, hM.more hbb, RStp.refl hbb, fun e => ?_, fun e => ?_, fun e => ?_⟩
  · exact ((Blk.allc h0 _).below hb1 (by omega)).allc _
  · exact (Blk.below h2 hb1 (by omega)).allc _
  · have := (hM.lt e).2; omega
  · have := (hM.lt e).2; omega
  · have := (hM.lt e).2; omega
def endR (x : EV) (r : RV) (e : Ep) : RV := if other x e = true then { r with kn := r.kn ++ [e], ov := r.ov ++ [e] } else r
def enR (x : EV) (r : RV) (e o : Ep) : RV := turnR (hearK (endK x e) o) (toldR (endK x e) (endR x r e) o)
theorem Agr.endsR {x : EV} {r : RV} (ha : Agr x r) (e : Ep) : Agr (endK x e) (endR x r e) := by
  unfold endR
  by_cases h : other x e = true
  · rw [if_pos h]; exact ha.ends h
  · rw [if_neg h]
    unfold endK
    rw [if_neg h]
    exact ha
theorem Agr.en {x : EV} {r : RV} (ha : Agr x r) (e o : Ep) (b : Ep) : Agr (turnX (hearK (endK x e) o) b) (enR x r e o) := ((ha.endsR e).told o).turn b
theorem tgt_ok {x : EV} {r : RV} (ha : Agr x r) : tgtE x x.n = e0 ∨ 0 < (tgtE x x.n).r := (tgtE_bd ha x.n).imp id (fun h => h.1)
set_option maxRecDepth 100000 in
set_option maxHeartbeats 6400000 in
theorem rend_1 {L me : Nat} {g : RG} {x : EV} {r : RV} (a b c d tr tk : Int) (w : World) (h : RM L g r w) (ha : Agr x r) (hx : x.Nm) (hlen : r.kn.length ≤ 999999990 ∧ r.ov.length ≤ 999999990) (hT : tgtE x x.n = ⟨tr, tk⟩) (hxm : x.me = me) (hok : endR x r ⟨a, b⟩ = r) (h1 : oneB r.n a b = false) : Calls Try.prog 49 #[.pointer (some ⟨g.rb, 0, none⟩), .agg #[.int .i64 a, .int .i64 b], .agg #[.int .i64 c, .int .i64 d]] w fun e w' => ∃ v, e = .returned v ∧ w'.ownsRow w.heap.size 117 6 v (enA x ⟨a, b⟩ ⟨c, d⟩).length (flatA (enA x ⟨a, b⟩ ⟨c, d⟩)) ∧ ∃ g', RM L g' (enR x r ⟨a, b⟩ ⟨c, d⟩) w' ∧ RStp g g' w w' := by
  have HM : Hid _ := h
  have HA : Hid _ := ha
  have HX : Hid _ := hx
  have HT : Hid (∀ W, Below w.heap.size w W → Calls Try.prog 70 #[.pointer (some ⟨g.rb, 0, none⟩)] W fun e w' => e = .returned (epV ⟨tr, tk⟩) ∧ Below W.heap.size W w') := fun W hW => by rw [← hT]; exact rtarget_any W (h.more hW) ha hx
  have HTT : Hid _ := hT
  have HLEN : Hid _ := hlen
  have HME : Hid (r.me = me) := show r.me = me from ha.me.trans hxm
  have HOK : Hid _ := hok
  have HXM : Hid _ := hxm
  have H1 : Hid _ := h1
  clear h ha hx hT hlen hxm hok h1
  unfold epV at *
  go_enter Try.func49, Try.ntmps49
  go_upto_region 2 with (first
    | (go_at_call 70; refine Calls.mono (HT.out _ (bal (bal (Below.refl _ _) (Nat.le_refl _) _) (Nat.le_refl _) _)) ?_; rintro e w1 ⟨rfl, hb1⟩)
    | fail)
  have hS := rend_start a b c d tr tk w w1 HM.out (by simpa using hb1)
  obtain ⟨p, hp⟩ : ∃ p, p = w.heap.size := ⟨_, rfl⟩
  obtain ⟨q, hq⟩ : ∃ q, q = w1.heap.size := ⟨_, rfl⟩
  generalize w1.alloc (.cells #[.int .i64 tr, .int .i64 tk] 49) = W at *
  rw [← hp, ← hq] at hS
  try rw [← hp]
  try rw [← hq]
  have HS : Hid _ := hS
  have HO : Hid _ := one_any a b W.drew (hS.rm.more (Below.refl _ _).drew)
  rw [H1.out] at HO
  have HCX : Hid (∀ W2, Below W.heap.size W W2 → W2.cell? ⟨g.rb, 0, none⟩ = some (.int .i64 (me : Int)) ∧ Blk W2 p #[.int .i64 a, .int .i64 b] 49) := fun W2 h2 => ⟨by rw [← HME.out]; exact (hS.rm.more h2).c0, hS.eb.b4.up h2⟩
  have HP : Hid _ := hp
  have HQ : Hid _ := hq
  clear hS hp hq hb1
  rename_i K hK
  try rw [show ∀ a : Act, a.put none undef = a from fun _ => rfl]
  have hDR : Below W.heap.size W ({ W with drawn := W.drawn + 1 } : World) := (Below.refl _ _).drew
  have HC0 : (fun wz : World => wz.cell? ⟨g.rb, 0, none⟩ = some (.int .i64 (me : Int)) ∧ Blk wz (p) #[.int .i64 a, .int .i64 b] 49) ({ W with drawn := W.drawn + 1 } : World) := HCX.out _ hDR
  refine wp_region_mix (fun wz : World => wz.cell? ⟨g.rb, 0, none⟩ = some (.int .i64 (me : Int)) ∧ Blk wz (p) #[.int .i64 a, .int .i64 b] 49) (fun i => i == 2 || i == 11) 11 (by kernel_rfl) rfl (by kernel_rfl) (by kernel_rfl) (by kernel_rfl) ?_
  refine withFrP (N := 41) rfl ?_
  intro f0 F0 hff
  have ee0 : f0 0 = Value.pointer (some ⟨g.rb, 0, none⟩) := hff 0
  have ee1 : f0 4 = Value.pointer (some ⟨p, 0, none⟩) := hff 4
  clear hff
  refine lyp F0 rfl HC0 rfl (by omega) (wanted_none rfl) (v := Value.pointer (some ⟨g.rb, 0, none⟩)) (fun wr hwr => by simp only [execOp, (F0.eval 0 (by omega)).trans (show _ = Value.pointer (some ⟨g.rb, 0, none⟩) from by simp [upd, ee0, ee1])]; first | rfl | simp [go_sem]) fun F1 => ?_
  refine lyp F1 rfl HC0 rfl (by omega) (wanted_none rfl) (v := Value.agg #[Value.int .i64 a, Value.int .i64 b]) (fun wr hwr => by simp only [execOp, (F1.eval 4 (by omega)).trans (show _ = Value.pointer (some ⟨p, 0, none⟩) from by simp [upd, ee0, ee1])]; have h0 := hwr.2.cell 0; have h1 := hwr.2.cell 1; simp [go_sem, h0, h1]) fun F2 => ?_
  refine lcp F2 rfl HC0 rfl (by omega) (wanted_none rfl) (g := 73) (args := #[Value.pointer (some ⟨g.rb, 0, none⟩), Value.agg #[Value.int .i64 a, Value.int .i64 b]]) (by simp only [execOp, resolve, invoke, List.map_toArray, List.map_cons, List.map_nil, (F2.eval 10 (by omega)).trans (show _ = Value.pointer (some ⟨g.rb, 0, none⟩) from by simp [upd, ee0, ee1]), (F2.eval 11 (by omega)).trans (show _ = Value.agg #[Value.int .i64 a, Value.int .i64 b] from by simp [upd, ee0, ee1])]; simp [go_sem, Act.eval]) HO.out ?_
  rintro e w2 ⟨rfl, hb1⟩
  have hbd : Below W.heap.size W w2 := bgo hDR hb1 (Nat.le_refl _)
  have HC1 : (fun wz : World => wz.cell? ⟨g.rb, 0, none⟩ = some (.int .i64 (me : Int)) ∧ Blk wz (p) #[.int .i64 a, .int .i64 b] 49) w2 := HCX.out _ hbd
  refine ⟨_, rfl, fun F3 => ?_⟩
  refine lyp F3 rfl HC1 rfl (by omega) (wanted_none rfl) (v := Value.bool false) (fun wr hwr => by simp only [execOp, (F3.eval 12 (by omega)).trans (show _ = Value.bool false from by simp [upd, ee0, ee1])]; first | rfl | simp [go_sem]) fun F4 => ?_
  refine lnp F4 rfl HC1 rfl (by omega) (want_no F4 rfl (e := 13) rfl (by omega) (show _ = Value.bool false from by simp [upd, ee0, ee1]) (by decide)) fun F5 => ?_
  refine lnp F5 rfl HC1 rfl (by omega) (want_no F5 rfl (e := 13) rfl (by omega) (show _ = Value.bool false from by simp [upd, ee0, ee1]) (by decide)) fun F6 => ?_
  refine lnp F6 rfl HC1 rfl (by omega) (want_no F6 rfl (e := 13) rfl (by omega) (show _ = Value.bool false from by simp [upd, ee0, ee1]) (by decide)) fun F7 => ?_
  refine lnp F7 rfl HC1 rfl (by omega) (want_no F7 rfl (e := 13) rfl (by omega) (show _ = Value.bool false from by simp [upd, ee0, ee1]) (by decide)) fun F8 => ?_
  refine lnp F8 rfl HC1 rfl (by omega) (want_no F8 rfl (e := 13) rfl (by omega) (show _ = Value.bool false from by simp [upd, ee0, ee1]) (by decide)) fun F9 => ?_
  refine lnp F9 rfl HC1 rfl (by omega) (want_no F9 rfl (e := 13) rfl (by omega) (show _ = Value.bool false from by simp [upd, ee0, ee1]) (by decide)) fun F10 => ?_
  refine lnp F10 rfl HC1 rfl (by omega) (want_no F10 rfl (e := 13) rfl (by omega) (show _ = Value.bool false from by simp [upd, ee0, ee1]) (by decide)) fun F11 => ?_
  refine lep F11 rfl HC1 rfl (by omega) (wanted_none rfl) (v := Value.bool false) (w1 := w2) (by simp only [execOp, (F11.eval 13 (by omega)).trans (show _ = Value.bool false from by simp [upd, ee0, ee1])]; simp [go_sem, Act.eval]) fun F12 => ?_
  refine ⟨fun h => by omega, ?_⟩
  refine hK _ _ ?_
  clear F0 F1 F2 F3 F4 F5 F6 F7 F8 F9 F10 F11 F12 ee0 ee1 HC0 HC1
  simp only [Act.put, List.setIfInBounds_toArray, List.set_cons_succ, List.set_cons_zero]
  have HS1 : Hid (RS L p q a b c d tr tk g g w r w2) := HS.out.up hbd
  clear hDR hbd hb1 HO HCX HS HT
  have HTO : Hid _ := told_any (x := endK x ⟨a, b⟩) ⟨c, d⟩ w2 HS1.out.rm (by show r.me = _; rw [HA.out.me]; unfold endK; split <;> rfl) (by show r.n = _; rw [HA.out.n]; unfold endK; split <;> rfl) (by have := HLEN.out.1; omega)
  unfold epV at HTO
  obtain ⟨⟨p0, p1⟩, ⟨p2, p3⟩, p4, p5⟩ := HS1.out.eb.cells
  go_upto_region 6 with (first
    | (go_at_call 71; refine Calls.mono HTO.out ?_; rintro e w4 ⟨rfl, g4, hm4, hs4⟩)
    | fail)
  obtain ⟨rb4, vk4, vo4, vn4⟩ := g4
  have hrb4 : rb4 = g.rb := hs4.1
  subst hrb4
  have HS4 : Hid _ := HS1.out.go hm4 hs4
  have HAG : Hid (Agr (hearK (endK x ⟨a, b⟩) ⟨c, d⟩) (toldR (endK x ⟨a, b⟩) (r) ⟨c, d⟩)) := show Agr _ _ from by rw [← HOK.out]; exact (HA.out.endsR ⟨a, b⟩).told ⟨c, d⟩
  have HTU : Hid _ := rturn_any (x := hearK (endK x ⟨a, b⟩) ⟨c, d⟩) (⟨tr, tk⟩ : Ep) w4 HS4.out.rm HAG.out ((HX.out.endK _).hearK _) (by have := HLEN.out.2; unfold toldR; split <;> simp <;> omega) (by have := tgt_ok HA.out; rw [HTT.out] at this; exact this)
  unfold epV at HTU
  clear p0 p1 p2 p3 p4 p5 hm4 hs4 HTO HS1
  obtain ⟨⟨p0, p1⟩, ⟨p2, p3⟩, p4, p5⟩ := HS4.out.eb.cells
  go_wp2_with (first
    | (go_at_call 72; refine Calls.mono HTU.out ?_; rintro e w5 ⟨v5, rfl, ho5, g5, hm5, hs5⟩)
    | fail)
  go_ret
  have hen : enR x r ⟨a, b⟩ ⟨c, d⟩ = turnR (hearK (endK x ⟨a, b⟩) ⟨c, d⟩) (toldR (endK x ⟨a, b⟩) (r) ⟨c, d⟩) := by unfold enR; rw [HOK.out]
  have hac : enA x ⟨a, b⟩ ⟨c, d⟩ = turnA (hearK (endK x ⟨a, b⟩) ⟨c, d⟩) ⟨tr, tk⟩ := by unfold enA; rw [HTT.out]
  rw [hen, hac]
  exact ⟨v5, rfl, ownsRow_mono ho5 HS4.out.st.2.1.size, g5, hm5, HS4.out.st.trans hs5⟩
set_option maxRecDepth 100000 in
set_option maxHeartbeats 6400000 in
theorem rend_2 {L me : Nat} {g : RG} {x : EV} {r : RV} (a b c d tr tk : Int) (w : World) (h : RM L g r w) (ha : Agr x r) (hx : x.Nm) (hlen : r.kn.length ≤ 999999990 ∧ r.ov.length ≤ 999999990) (hT : tgtE x x.n = ⟨tr, tk⟩) (hxm : x.me = me) (hok : endR x r ⟨a, b⟩ = r) (h1 : oneB r.n a b = true) (hbm : b = (me : Int)) : Calls Try.prog 49 #[.pointer (some ⟨g.rb, 0, none⟩), .agg #[.int .i64 a, .int .i64 b], .agg #[.int .i64 c, .int .i64 d]] w fun e w' => ∃ v, e = .returned v ∧ w'.ownsRow w.heap.size 117 6 v (enA x ⟨a, b⟩ ⟨c, d⟩).length (flatA (enA x ⟨a, b⟩ ⟨c, d⟩)) ∧ ∃ g', RM L g' (enR x r ⟨a, b⟩ ⟨c, d⟩) w' ∧ RStp g g' w w' := by
  have HM : Hid _ := h
  have HA : Hid _ := ha
  have HX : Hid _ := hx
  have HT : Hid (∀ W, Below w.heap.size w W → Calls Try.prog 70 #[.pointer (some ⟨g.rb, 0, none⟩)] W fun e w' => e = .returned (epV ⟨tr, tk⟩) ∧ Below W.heap.size W w') := fun W hW => by rw [← hT]; exact rtarget_any W (h.more hW) ha hx
  have HTT : Hid _ := hT
  have HLEN : Hid _ := hlen
  have HME : Hid (r.me = me) := show r.me = me from ha.me.trans hxm
  have HOK : Hid _ := hok
  have HXM : Hid _ := hxm
  have H1 : Hid _ := h1
  have hne : (b != (me : Int)) = false := by simp [hbm]
  have HBM : Hid _ := hbm
  clear hbm
  clear h ha hx hT hlen hxm hok h1
  unfold epV at *
  go_enter Try.func49, Try.ntmps49
  go_upto_region 2 with (first
    | (go_at_call 70; refine Calls.mono (HT.out _ (bal (bal (Below.refl _ _) (Nat.le_refl _) _) (Nat.le_refl _) _)) ?_; rintro e w1 ⟨rfl, hb1⟩)
    | fail)
  have hS := rend_start a b c d tr tk w w1 HM.out (by simpa using hb1)
  obtain ⟨p, hp⟩ : ∃ p, p = w.heap.size := ⟨_, rfl⟩
  obtain ⟨q, hq⟩ : ∃ q, q = w1.heap.size := ⟨_, rfl⟩
  generalize w1.alloc (.cells #[.int .i64 tr, .int .i64 tk] 49) = W at *
  rw [← hp, ← hq] at hS
  try rw [← hp]
  try rw [← hq]
  have HS : Hid _ := hS
  have HO : Hid _ := one_any a b W.drew (hS.rm.more (Below.refl _ _).drew)
  rw [H1.out] at HO
  have HCX : Hid (∀ W2, Below W.heap.size W W2 → W2.cell? ⟨g.rb, 0, none⟩ = some (.int .i64 (me : Int)) ∧ Blk W2 p #[.int .i64 a, .int .i64 b] 49) := fun W2 h2 => ⟨by rw [← HME.out]; exact (hS.rm.more h2).c0, hS.eb.b4.up h2⟩
  have HP : Hid _ := hp
  have HQ : Hid _ := hq
  clear hS hp hq hb1
  rename_i K hK
  try rw [show ∀ a : Act, a.put none undef = a from fun _ => rfl]
  have hDR : Below W.heap.size W ({ W with drawn := W.drawn + 1 } : World) := (Below.refl _ _).drew
  have HC0 : (fun wz : World => wz.cell? ⟨g.rb, 0, none⟩ = some (.int .i64 (me : Int)) ∧ Blk wz (p) #[.int .i64 a, .int .i64 b] 49) ({ W with drawn := W.drawn + 1 } : World) := HCX.out _ hDR
  refine wp_region_mix (fun wz : World => wz.cell? ⟨g.rb, 0, none⟩ = some (.int .i64 (me : Int)) ∧ Blk wz (p) #[.int .i64 a, .int .i64 b] 49) (fun i => i == 2 || i == 11) 11 (by kernel_rfl) rfl (by kernel_rfl) (by kernel_rfl) (by kernel_rfl) ?_
  refine withFrP (N := 41) rfl ?_
  intro f0 F0 hff
  have ee0 : f0 0 = Value.pointer (some ⟨g.rb, 0, none⟩) := hff 0
  have ee1 : f0 4 = Value.pointer (some ⟨p, 0, none⟩) := hff 4
  clear hff
  refine lyp F0 rfl HC0 rfl (by omega) (wanted_none rfl) (v := Value.pointer (some ⟨g.rb, 0, none⟩)) (fun wr hwr => by simp only [execOp, (F0.eval 0 (by omega)).trans (show _ = Value.pointer (some ⟨g.rb, 0, none⟩) from by simp [upd, ee0, ee1])]; first | rfl | simp [go_sem]) fun F1 => ?_
  refine lyp F1 rfl HC0 rfl (by omega) (wanted_none rfl) (v := Value.agg #[Value.int .i64 a, Value.int .i64 b]) (fun wr hwr => by simp only [execOp, (F1.eval 4 (by omega)).trans (show _ = Value.pointer (some ⟨p, 0, none⟩) from by simp [upd, ee0, ee1])]; have h0 := hwr.2.cell 0; have h1 := hwr.2.cell 1; simp [go_sem, h0, h1]) fun F2 => ?_
  refine lcp F2 rfl HC0 rfl (by omega) (wanted_none rfl) (g := 73) (args := #[Value.pointer (some ⟨g.rb, 0, none⟩), Value.agg #[Value.int .i64 a, Value.int .i64 b]]) (by simp only [execOp, resolve, invoke, List.map_toArray, List.map_cons, List.map_nil, (F2.eval 10 (by omega)).trans (show _ = Value.pointer (some ⟨g.rb, 0, none⟩) from by simp [upd, ee0, ee1]), (F2.eval 11 (by omega)).trans (show _ = Value.agg #[Value.int .i64 a, Value.int .i64 b] from by simp [upd, ee0, ee1])]; simp [go_sem, Act.eval]) HO.out ?_
  rintro e w2 ⟨rfl, hb1⟩
  have hbd : Below W.heap.size W w2 := bgo hDR hb1 (Nat.le_refl _)
  have HC1 : (fun wz : World => wz.cell? ⟨g.rb, 0, none⟩ = some (.int .i64 (me : Int)) ∧ Blk wz (p) #[.int .i64 a, .int .i64 b] 49) w2 := HCX.out _ hbd
  refine ⟨_, rfl, fun F3 => ?_⟩
  refine lyp F3 rfl HC1 rfl (by omega) (wanted_none rfl) (v := Value.bool true) (fun wr hwr => by simp only [execOp, (F3.eval 12 (by omega)).trans (show _ = Value.bool true from by simp [upd, ee0, ee1])]; first | rfl | simp [go_sem]) fun F4 => ?_
  refine lyp F4 rfl HC1 rfl (by omega) (want_yes F4 rfl (e := 13) rfl (by omega) (show _ = Value.bool true from by simp [upd, ee0, ee1])) (v := Value.pointer (some ⟨p, 1, none⟩)) (fun wr hwr => by simp only [execOp, (F4.eval 4 (by omega)).trans (show _ = Value.pointer (some ⟨p, 0, none⟩) from by simp [upd, ee0, ee1])]; simp [go_sem]) fun F5 => ?_
  refine lyp F5 rfl HC1 rfl (by omega) (want_yes F5 rfl (e := 13) rfl (by omega) (show _ = Value.bool true from by simp [upd, ee0, ee1])) (v := Value.int .i64 b) (fun wr hwr => by simp only [execOp, (F5.eval 14 (by omega)).trans (show _ = Value.pointer (some ⟨p, 1, none⟩) from by simp [upd, ee0, ee1])]; have h1 := hwr.2.cell 1; simp [go_sem, h1]) fun F6 => ?_
  refine lyp F6 rfl HC1 rfl (by omega) (want_yes F6 rfl (e := 13) rfl (by omega) (show _ = Value.bool true from by simp [upd, ee0, ee1])) (v := Value.pointer (some ⟨g.rb, 0, none⟩)) (fun wr hwr => by simp only [execOp, (F6.eval 0 (by omega)).trans (show _ = Value.pointer (some ⟨g.rb, 0, none⟩) from by simp [upd, ee0, ee1])]; first | rfl | simp [go_sem]) fun F7 => ?_
  refine lyp F7 rfl HC1 rfl (by omega) (want_yes F7 rfl (e := 13) rfl (by omega) (show _ = Value.bool true from by simp [upd, ee0, ee1])) (v := Value.pointer (some ⟨g.rb, 0, none⟩)) (fun wr hwr => by simp only [execOp, (F7.eval 16 (by omega)).trans (show _ = Value.pointer (some ⟨g.rb, 0, none⟩) from by simp [upd, ee0, ee1])]; simp [go_sem]) fun F8 => ?_
  refine lyp F8 rfl HC1 rfl (by omega) (want_yes F8 rfl (e := 13) rfl (by omega) (show _ = Value.bool true from by simp [upd, ee0, ee1])) (v := Value.pointer (some ⟨g.rb, 0, none⟩)) (fun wr hwr => by simp only [execOp, (F8.eval 17 (by omega)).trans (show _ = Value.pointer (some ⟨g.rb, 0, none⟩) from by simp [upd, ee0, ee1])]; simp [go_sem]) fun F9 => ?_
  refine lyp F9 rfl HC1 rfl (by omega) (want_yes F9 rfl (e := 13) rfl (by omega) (show _ = Value.bool true from by simp [upd, ee0, ee1])) (v := Value.int .i64 (me : Int)) (fun wr hwr => by simp only [execOp, (F9.eval 18 (by omega)).trans (show _ = Value.pointer (some ⟨g.rb, 0, none⟩) from by simp [upd, ee0, ee1])]; simp [go_sem, hwr.1]) fun F10 => ?_
  refine lyp F10 rfl HC1 rfl (by omega) (want_yes F10 rfl (e := 13) rfl (by omega) (show _ = Value.bool true from by simp [upd, ee0, ee1])) (v := Value.bool false) (fun wr hwr => by simp only [execOp, (F10.eval 15 (by omega)).trans (show _ = Value.int .i64 b from by simp [upd, ee0, ee1]), (F10.eval 19 (by omega)).trans (show _ = Value.int .i64 (me : Int) from by simp [upd, ee0, ee1])]; simp [go_sem, hne]) fun F11 => ?_
  refine lep F11 rfl HC1 rfl (by omega) (wanted_none rfl) (v := Value.bool false) (w1 := w2) (by simp only [execOp, (F11.eval 13 (by omega)).trans (show _ = Value.bool true from by simp [upd, ee0, ee1]), (F11.eval 20 (by omega)).trans (show _ = Value.bool false from by simp [upd, ee0, ee1])]; simp [go_sem, Act.eval]) fun F12 => ?_
  refine ⟨fun h => by omega, ?_⟩
  refine hK _ _ ?_
  clear F0 F1 F2 F3 F4 F5 F6 F7 F8 F9 F10 F11 F12 ee0 ee1 HC0 HC1
  simp only [Act.put, List.setIfInBounds_toArray, List.set_cons_succ, List.set_cons_zero]
  have HS1 : Hid (RS L p q a b c d tr tk g g w r w2) := HS.out.up hbd
  clear hDR hbd hb1 HO HCX HS HT
  have HTO : Hid _ := told_any (x := endK x ⟨a, b⟩) ⟨c, d⟩ w2 HS1.out.rm (by show r.me = _; rw [HA.out.me]; unfold endK; split <;> rfl) (by show r.n = _; rw [HA.out.n]; unfold endK; split <;> rfl) (by have := HLEN.out.1; omega)
  unfold epV at HTO
  obtain ⟨⟨p0, p1⟩, ⟨p2, p3⟩, p4, p5⟩ := HS1.out.eb.cells
  go_upto_region 6 with (first
    | (go_at_call 71; refine Calls.mono HTO.out ?_; rintro e w4 ⟨rfl, g4, hm4, hs4⟩)
    | fail)
  obtain ⟨rb4, vk4, vo4, vn4⟩ := g4
  have hrb4 : rb4 = g.rb := hs4.1
  subst hrb4
  have HS4 : Hid _ := HS1.out.go hm4 hs4
  have HAG : Hid (Agr (hearK (endK x ⟨a, b⟩) ⟨c, d⟩) (toldR (endK x ⟨a, b⟩) (r) ⟨c, d⟩)) := show Agr _ _ from by rw [← HOK.out]; exact (HA.out.endsR ⟨a, b⟩).told ⟨c, d⟩
  have HTU : Hid _ := rturn_any (x := hearK (endK x ⟨a, b⟩) ⟨c, d⟩) (⟨tr, tk⟩ : Ep) w4 HS4.out.rm HAG.out ((HX.out.endK _).hearK _) (by have := HLEN.out.2; unfold toldR; split <;> simp <;> omega) (by have := tgt_ok HA.out; rw [HTT.out] at this; exact this)
  unfold epV at HTU
  clear p0 p1 p2 p3 p4 p5 hm4 hs4 HTO HS1
  obtain ⟨⟨p0, p1⟩, ⟨p2, p3⟩, p4, p5⟩ := HS4.out.eb.cells
  go_wp2_with (first
    | (go_at_call 72; refine Calls.mono HTU.out ?_; rintro e w5 ⟨v5, rfl, ho5, g5, hm5, hs5⟩)
    | fail)
  go_ret
  have hen : enR x r ⟨a, b⟩ ⟨c, d⟩ = turnR (hearK (endK x ⟨a, b⟩) ⟨c, d⟩) (toldR (endK x ⟨a, b⟩) (r) ⟨c, d⟩) := by unfold enR; rw [HOK.out]
  have hac : enA x ⟨a, b⟩ ⟨c, d⟩ = turnA (hearK (endK x ⟨a, b⟩) ⟨c, d⟩) ⟨tr, tk⟩ := by unfold enA; rw [HTT.out]
  rw [hen, hac]
  exact ⟨v5, rfl, ownsRow_mono ho5 HS4.out.st.2.1.size, g5, hm5, HS4.out.st.trans hs5⟩
set_option maxRecDepth 100000 in
set_option maxHeartbeats 6400000 in
theorem rend_3 {L me : Nat} {g : RG} {x : EV} {r : RV} (a b c d tr tk : Int) (w : World) (h : RM L g r w) (ha : Agr x r) (hx : x.Nm) (hlen : r.kn.length ≤ 999999990 ∧ r.ov.length ≤ 999999990) (hT : tgtE x x.n = ⟨tr, tk⟩) (hxm : x.me = me) (hok : endR x r ⟨a, b⟩ = { r with kn := r.kn ++ [⟨a, b⟩], ov := r.ov ++ [⟨a, b⟩] }) (h1 : oneB r.n a b = true) (hbm : b ≠ (me : Int)) : Calls Try.prog 49 #[.pointer (some ⟨g.rb, 0, none⟩), .agg #[.int .i64 a, .int .i64 b], .agg #[.int .i64 c, .int .i64 d]] w fun e w' => ∃ v, e = .returned v ∧ w'.ownsRow w.heap.size 117 6 v (enA x ⟨a, b⟩ ⟨c, d⟩).length (flatA (enA x ⟨a, b⟩ ⟨c, d⟩)) ∧ ∃ g', RM L g' (enR x r ⟨a, b⟩ ⟨c, d⟩) w' ∧ RStp g g' w w' := by
  have HM : Hid _ := h
  have HA : Hid _ := ha
  have HX : Hid _ := hx
  have HT : Hid (∀ W, Below w.heap.size w W → Calls Try.prog 70 #[.pointer (some ⟨g.rb, 0, none⟩)] W fun e w' => e = .returned (epV ⟨tr, tk⟩) ∧ Below W.heap.size W w') := fun W hW => by rw [← hT]; exact rtarget_any W (h.more hW) ha hx
  have HTT : Hid _ := hT
  have HLEN : Hid _ := hlen
  have HME : Hid (r.me = me) := show r.me = me from ha.me.trans hxm
  have HOK : Hid _ := hok
  have HXM : Hid _ := hxm
  have H1 : Hid _ := h1
  have hne : (b != (me : Int)) = true := by simp [hbm]
  have HBM : Hid _ := hbm
  clear hbm
  clear h ha hx hT hlen hxm hok h1
  unfold epV at *
  go_enter Try.func49, Try.ntmps49
  go_upto_region 2 with (first
    | (go_at_call 70; refine Calls.mono (HT.out _ (bal (bal (Below.refl _ _) (Nat.le_refl _) _) (Nat.le_refl _) _)) ?_; rintro e w1 ⟨rfl, hb1⟩)
    | fail)
  have hS := rend_start a b c d tr tk w w1 HM.out (by simpa using hb1)
  obtain ⟨p, hp⟩ : ∃ p, p = w.heap.size := ⟨_, rfl⟩
  obtain ⟨q, hq⟩ : ∃ q, q = w1.heap.size := ⟨_, rfl⟩
  generalize w1.alloc (.cells #[.int .i64 tr, .int .i64 tk] 49) = W at *
  rw [← hp, ← hq] at hS
  try rw [← hp]
  try rw [← hq]
  have HS : Hid _ := hS
  have HO : Hid _ := one_any a b W.drew (hS.rm.more (Below.refl _ _).drew)
  rw [H1.out] at HO
  have HCX : Hid (∀ W2, Below W.heap.size W W2 → W2.cell? ⟨g.rb, 0, none⟩ = some (.int .i64 (me : Int)) ∧ Blk W2 p #[.int .i64 a, .int .i64 b] 49) := fun W2 h2 => ⟨by rw [← HME.out]; exact (hS.rm.more h2).c0, hS.eb.b4.up h2⟩
  have HP : Hid _ := hp
  have HQ : Hid _ := hq
  clear hS hp hq hb1
  rename_i K hK
  try rw [show ∀ a : Act, a.put none undef = a from fun _ => rfl]
  have hDR : Below W.heap.size W ({ W with drawn := W.drawn + 1 } : World) := (Below.refl _ _).drew
  have HC0 : (fun wz : World => wz.cell? ⟨g.rb, 0, none⟩ = some (.int .i64 (me : Int)) ∧ Blk wz (p) #[.int .i64 a, .int .i64 b] 49) ({ W with drawn := W.drawn + 1 } : World) := HCX.out _ hDR
  refine wp_region_mix (fun wz : World => wz.cell? ⟨g.rb, 0, none⟩ = some (.int .i64 (me : Int)) ∧ Blk wz (p) #[.int .i64 a, .int .i64 b] 49) (fun i => i == 2 || i == 11) 11 (by kernel_rfl) rfl (by kernel_rfl) (by kernel_rfl) (by kernel_rfl) ?_
  refine withFrP (N := 41) rfl ?_
  intro f0 F0 hff
  have ee0 : f0 0 = Value.pointer (some ⟨g.rb, 0, none⟩) := hff 0
  have ee1 : f0 4 = Value.pointer (some ⟨p, 0, none⟩) := hff 4
  clear hff
  refine lyp F0 rfl HC0 rfl (by omega) (wanted_none rfl) (v := Value.pointer (some ⟨g.rb, 0, none⟩)) (fun wr hwr => by simp only [execOp, (F0.eval 0 (by omega)).trans (show _ = Value.pointer (some ⟨g.rb, 0, none⟩) from by simp [upd, ee0, ee1])]; first | rfl | simp [go_sem]) fun F1 => ?_
  refine lyp F1 rfl HC0 rfl (by omega) (wanted_none rfl) (v := Value.agg #[Value.int .i64 a, Value.int .i64 b]) (fun wr hwr => by simp only [execOp, (F1.eval 4 (by omega)).trans (show _ = Value.pointer (some ⟨p, 0, none⟩) from by simp [upd, ee0, ee1])]; have h0 := hwr.2.cell 0; have h1 := hwr.2.cell 1; simp [go_sem, h0, h1]) fun F2 => ?_
  refine lcp F2 rfl HC0 rfl (by omega) (wanted_none rfl) (g := 73) (args := #[Value.pointer (some ⟨g.rb, 0, none⟩), Value.agg #[Value.int .i64 a, Value.int .i64 b]]) (by simp only [execOp, resolve, invoke, List.map_toArray, List.map_cons, List.map_nil, (F2.eval 10 (by omega)).trans (show _ = Value.pointer (some ⟨g.rb, 0, none⟩) from by simp [upd, ee0, ee1]), (F2.eval 11 (by omega)).trans (show _ = Value.agg #[Value.int .i64 a, Value.int .i64 b] from by simp [upd, ee0, ee1])]; simp [go_sem, Act.eval]) HO.out ?_
  rintro e w2 ⟨rfl, hb1⟩
  have hbd : Below W.heap.size W w2 := bgo hDR hb1 (Nat.le_refl _)
  have HC1 : (fun wz : World => wz.cell? ⟨g.rb, 0, none⟩ = some (.int .i64 (me : Int)) ∧ Blk wz (p) #[.int .i64 a, .int .i64 b] 49) w2 := HCX.out _ hbd
  refine ⟨_, rfl, fun F3 => ?_⟩
  refine lyp F3 rfl HC1 rfl (by omega) (wanted_none rfl) (v := Value.bool true) (fun wr hwr => by simp only [execOp, (F3.eval 12 (by omega)).trans (show _ = Value.bool true from by simp [upd, ee0, ee1])]; first | rfl | simp [go_sem]) fun F4 => ?_
  refine lyp F4 rfl HC1 rfl (by omega) (want_yes F4 rfl (e := 13) rfl (by omega) (show _ = Value.bool true from by simp [upd, ee0, ee1])) (v := Value.pointer (some ⟨p, 1, none⟩)) (fun wr hwr => by simp only [execOp, (F4.eval 4 (by omega)).trans (show _ = Value.pointer (some ⟨p, 0, none⟩) from by simp [upd, ee0, ee1])]; simp [go_sem]) fun F5 => ?_
  refine lyp F5 rfl HC1 rfl (by omega) (want_yes F5 rfl (e := 13) rfl (by omega) (show _ = Value.bool true from by simp [upd, ee0, ee1])) (v := Value.int .i64 b) (fun wr hwr => by simp only [execOp, (F5.eval 14 (by omega)).trans (show _ = Value.pointer (some ⟨p, 1, none⟩) from by simp [upd, ee0, ee1])]; have h1 := hwr.2.cell 1; simp [go_sem, h1]) fun F6 => ?_
  refine lyp F6 rfl HC1 rfl (by omega) (want_yes F6 rfl (e := 13) rfl (by omega) (show _ = Value.bool true from by simp [upd, ee0, ee1])) (v := Value.pointer (some ⟨g.rb, 0, none⟩)) (fun wr hwr => by simp only [execOp, (F6.eval 0 (by omega)).trans (show _ = Value.pointer (some ⟨g.rb, 0, none⟩) from by simp [upd, ee0, ee1])]; first | rfl | simp [go_sem]) fun F7 => ?_
  refine lyp F7 rfl HC1 rfl (by omega) (want_yes F7 rfl (e := 13) rfl (by omega) (show _ = Value.bool true from by simp [upd, ee0, ee1])) (v := Value.pointer (some ⟨g.rb, 0, none⟩)) (fun wr hwr => by simp only [execOp, (F7.eval 16 (by omega)).trans (show _ = Value.pointer (some ⟨g.rb, 0, none⟩) from by simp [upd, ee0, ee1])]; simp [go_sem]) fun F8 => ?_
  refine lyp F8 rfl HC1 rfl (by omega) (want_yes F8 rfl (e := 13) rfl (by omega) (show _ = Value.bool true from by simp [upd, ee0, ee1])) (v := Value.pointer (some ⟨g.rb, 0, none⟩)) (fun wr hwr => by simp only [execOp, (F8.eval 17 (by omega)).trans (show _ = Value.pointer (some ⟨g.rb, 0, none⟩) from by simp [upd, ee0, ee1])]; simp [go_sem]) fun F9 => ?_
  refine lyp F9 rfl HC1 rfl (by omega) (want_yes F9 rfl (e := 13) rfl (by omega) (show _ = Value.bool true from by simp [upd, ee0, ee1])) (v := Value.int .i64 (me : Int)) (fun wr hwr => by simp only [execOp, (F9.eval 18 (by omega)).trans (show _ = Value.pointer (some ⟨g.rb, 0, none⟩) from by simp [upd, ee0, ee1])]; simp [go_sem, hwr.1]) fun F10 => ?_
  refine lyp F10 rfl HC1 rfl (by omega) (want_yes F10 rfl (e := 13) rfl (by omega) (show _ = Value.bool true from by simp [upd, ee0, ee1])) (v := Value.bool true) (fun wr hwr => by simp only [execOp, (F10.eval 15 (by omega)).trans (show _ = Value.int .i64 b from by simp [upd, ee0, ee1]), (F10.eval 19 (by omega)).trans (show _ = Value.int .i64 (me : Int) from by simp [upd, ee0, ee1])]; simp [go_sem, hne]) fun F11 => ?_
  refine lep F11 rfl HC1 rfl (by omega) (wanted_none rfl) (v := Value.bool true) (w1 := w2) (by simp only [execOp, (F11.eval 13 (by omega)).trans (show _ = Value.bool true from by simp [upd, ee0, ee1]), (F11.eval 20 (by omega)).trans (show _ = Value.bool true from by simp [upd, ee0, ee1])]; simp [go_sem, Act.eval]) fun F12 => ?_
  refine ⟨fun h => by omega, ?_⟩
  refine hK _ _ ?_
  clear F0 F1 F2 F3 F4 F5 F6 F7 F8 F9 F10 F11 F12 ee0 ee1 HC0 HC1
  simp only [Act.put, List.setIfInBounds_toArray, List.set_cons_succ, List.set_cons_zero]
  have HS1 : Hid (RS L p q a b c d tr tk g g w r w2) := HS.out.up hbd
  clear hDR hbd hb1 HO HCX HS HT
  have H3 : Hid _ := told_3 (me := me) a b w2 HS1.out.rm HME.out (by have := HLEN.out.1; omega) H1.out HBM.out
  obtain ⟨⟨p0, p1⟩, ⟨p2, p3⟩, p4, p5⟩ := HS1.out.eb.cells
  go_upto_region 4 with (first
    | (go_at_call 71; refine Calls.mono H3.out ?_; rintro e w3 ⟨rfl, g1, hm3, hs3⟩)
    | fail)
  obtain ⟨rb1, vk1, vo1, vn1⟩ := g1
  have hrb : rb1 = g.rb := hs3.1
  subst hrb
  have HS2 : Hid _ := HS1.out.go hm3 hs3
  have HQN : Hid (¬ rown (⟨g.rb, vk1, vo1, vn1⟩ : RG) p) := HS2.out.nb.1
  have HM2 : Hid (RM L (⟨g.rb, vk1, vo1, vn1⟩ : RG) { r with kn := r.kn ++ [⟨a, b⟩] } w3) := HS2.out.rm
  have HBX : Hid (Blk w3 p #[.int .i64 a, .int .i64 b] 49) := HS2.out.eb.b4
  have HL2 : Hid (r.ov.length ≤ 1000000000) := show r.ov.length ≤ 1000000000 from by have := HLEN.out.2; omega
  clear p0 p1 p2 p3 p4 p5 hm3 hs3 HS1 H3
  try rw [show ∀ a : Act, a.put none undef = a from fun _ => rfl]
  have hDR : Below w3.heap.size w3 ({ w3 with drawn := w3.drawn + 1 } : World) := (Below.refl _ _).drew
  have HMD : Hid (RM L (⟨g.rb, vk1, vo1, vn1⟩ : RG) { r with kn := r.kn ++ [⟨a, b⟩] } ({ w3 with drawn := w3.drawn + 1 } : World)) := show RM L (⟨g.rb, vk1, vo1, vn1⟩ : RG) { r with kn := r.kn ++ [⟨a, b⟩] } _ from HM2.out.more hDR
  obtain ⟨v8, w8, hr8, hB8, hC8, hR8, hS8⟩ := HMD.out.addO ⟨a, b⟩ HL2.out
  obtain ⟨ao8, n8, c8, hv8⟩ : ∃ ao n c, v8 = Value.slice ao n c := by obtain ⟨ao, c, h, _⟩ := own_slice hR8.o; exact ⟨_, _, _, h⟩
  subst hv8
  have HR8 : Hid _ := hR8
  have HS8 : Hid _ := hS8
  clear hR8 hS8
  have HC0 : (fun wz : World => wz.cell? ⟨g.rb, 3, none⟩ = some (vo1) ∧ Blk wz (p) #[.int .i64 a, .int .i64 b] 49) ({ w3 with drawn := w3.drawn + 1 } : World) := ⟨HMD.out.c3, HBX.out⟩
  have hqn : (vo1).ownBlock ≠ some (p) := fun e => HQN.out (.inr (.inr (.inl e)))
  have HCA : (fun wz : World => wz.cell? ⟨g.rb, 3, none⟩ = some (vo1) ∧ Blk wz (p) #[.int .i64 a, .int .i64 b] 49) (World.alloc ({ w3 with drawn := w3.drawn + 1 } : World) (.cells #[.int .i64 a, .int .i64 b] 49)) := ⟨(Below.cell (Below.alloc (Below.refl _ _) (Nat.le_refl _) _) (World.block_lt_of_cell? _ _ HC0.1)).trans HC0.1, Blk.allc HC0.2 _⟩
  have HC9 : (fun wz : World => wz.cell? ⟨g.rb, 3, none⟩ = some (vo1) ∧ Blk wz (p) #[.int .i64 a, .int .i64 b] 49) w8 := ⟨(hB8.cell 3).trans rfl, hC8.blk HC0.2 hqn⟩
  refine wp_region_mix (fun wz : World => wz.cell? ⟨g.rb, 3, none⟩ = some (vo1) ∧ Blk wz (p) #[.int .i64 a, .int .i64 b] 49) (fun i => i == 6 || i == 7 || i == 10) 10 (by kernel_rfl) rfl (by kernel_rfl) (by kernel_rfl) (by kernel_rfl) ?_
  refine withFrP (N := 41) rfl ?_
  intro f0 F0 hff
  have ee0 : f0 0 = Value.pointer (some ⟨g.rb, 0, none⟩) := hff 0
  have ee1 : f0 4 = Value.pointer (some ⟨p, 0, none⟩) := hff 4
  clear hff
  refine lyp F0 rfl HC0 rfl (by omega) (wanted_none rfl) (v := Value.pointer (some ⟨g.rb, 0, none⟩)) (fun wr hwr => by simp only [execOp, (F0.eval 0 (by omega)).trans (show _ = Value.pointer (some ⟨g.rb, 0, none⟩) from by simp [upd, ee0, ee1])]; first | rfl | simp [go_sem]) fun F1 => ?_
  refine lyp F1 rfl HC0 rfl (by omega) (wanted_none rfl) (v := Value.pointer (some ⟨g.rb, 0, none⟩)) (fun wr hwr => by simp only [execOp, (F1.eval 0 (by omega)).trans (show _ = Value.pointer (some ⟨g.rb, 0, none⟩) from by simp [upd, ee0, ee1])]; first | rfl | simp [go_sem]) fun F2 => ?_
  refine lyp F2 rfl HC0 rfl (by omega) (wanted_none rfl) (v := Value.pointer (some ⟨g.rb, 0, none⟩)) (fun wr hwr => by simp only [execOp, (F2.eval 26 (by omega)).trans (show _ = Value.pointer (some ⟨g.rb, 0, none⟩) from by simp [upd, ee0, ee1])]; simp [go_sem]) fun F3 => ?_
  refine lyp F3 rfl HC0 rfl (by omega) (wanted_none rfl) (v := Value.pointer (some ⟨g.rb, 3, none⟩)) (fun wr hwr => by simp only [execOp, (F3.eval 27 (by omega)).trans (show _ = Value.pointer (some ⟨g.rb, 0, none⟩) from by simp [upd, ee0, ee1])]; simp [go_sem]) fun F4 => ?_
  refine lyp F4 rfl HC0 rfl (by omega) (wanted_none rfl) (v := (vo1)) (fun wr hwr => by simp only [execOp, (F4.eval 28 (by omega)).trans (show _ = Value.pointer (some ⟨g.rb, 3, none⟩) from by simp [upd, ee0, ee1])]; simp [go_sem, hwr.1]) fun F5 => ?_
  refine lyp F5 rfl HC0 rfl (by omega) (wanted_none rfl) (v := Value.agg #[Value.int .i64 a, Value.int .i64 b]) (fun wr hwr => by simp only [execOp, (F5.eval 4 (by omega)).trans (show _ = Value.pointer (some ⟨p, 0, none⟩) from by simp [upd, ee0, ee1])]; have h0 := hwr.2.cell 0; have h1 := hwr.2.cell 1; simp [go_sem, h0, h1]) fun F6 => ?_
  refine lep F6 rfl HC0 rfl (by omega) (wanted_none rfl) (v := Value.slice (some ⟨({ w3 with drawn := w3.drawn + 1 } : World).heap.size, 0, none⟩) 1 1) (w1 := (World.alloc ({ w3 with drawn := w3.drawn + 1 } : World) (.cells #[.int .i64 a, .int .i64 b] 49))) (by simp only [execOp, List.map_toArray, List.map_cons, List.map_nil, (F6.eval 30 (by omega)).trans (show _ = Value.agg #[Value.int .i64 a, Value.int .i64 b] from by simp [upd, ee0, ee1])]; simp [go_sem]) fun F7 => ?_
  refine lep F7 rfl HCA rfl (by omega) (wanted_none rfl) (v := Value.slice ao8 n8 c8) (w1 := w8) (by simp only [execOp, resolve, invoke, builtin, List.map_toArray, List.map_cons, List.map_nil, (F7.eval 29 (by omega)).trans (show _ = (vo1) from by simp [upd, ee0, ee1]), (F7.eval 31 (by omega)).trans (show _ = Value.slice (some ⟨({ w3 with drawn := w3.drawn + 1 } : World).heap.size, 0, none⟩) 1 1 from by simp [upd, ee0, ee1])]; simp only [Sem.run_bind, Sem.run_pure, Result.andThen_ok, hr8]; try rfl) fun F8 => ?_
  refine lyp F8 rfl HC9 rfl (by omega) (wanted_none rfl) (v := Value.pointer (some ⟨g.rb, 0, none⟩)) (fun wr hwr => by simp only [execOp, (F8.eval 25 (by omega)).trans (show _ = Value.pointer (some ⟨g.rb, 0, none⟩) from by simp [upd, ee0, ee1])]; simp [go_sem]) fun F9 => ?_
  refine lyp F9 rfl HC9 rfl (by omega) (wanted_none rfl) (v := Value.pointer (some ⟨g.rb, 3, none⟩)) (fun wr hwr => by simp only [execOp, (F9.eval 33 (by omega)).trans (show _ = Value.pointer (some ⟨g.rb, 0, none⟩) from by simp [upd, ee0, ee1])]; simp [go_sem]) fun F10 => ?_
  refine lst rfl HC9 rfl (wanted_none rfl) (w1 := w8.setCell ⟨g.rb, 3, none⟩ (Value.slice ao8 n8 c8)) (by simp only [execOp, (F10.eval 34 (by omega)).trans (show _ = Value.pointer (some ⟨g.rb, 3, none⟩) from by simp [upd, ee0, ee1]), (F10.eval 32 (by omega)).trans (show _ = Value.slice ao8 n8 c8 from by simp [upd, ee0, ee1])]; simp [go_sem, hB8.frozen 3, show w8.cell? ⟨g.rb, 3, none⟩ = some (vo1) from HC9.1]) ?_
  refine ⟨fun h => by omega, ?_⟩
  clear F0 F1 F2 F3 F4 F5 F6 F7 F8 F9 F10 ee0 ee1 HC0 HCA HC9 hr8 hB8 hqn hC8 HMD
  simp only [Act.put, List.setIfInBounds_toArray, List.set_cons_succ, List.set_cons_zero]
  have HS1 : Hid _ := (HS2.out.up hDR).go HR8.out HS8.out
  clear HR8 HS8 HM2 HS2 hDR
  generalize hW9 : w8.setCell ⟨g.rb, 3, none⟩ (Value.slice ao8 n8 c8) = W9 at *
  have HTO : Hid _ := told_any (x := endK x ⟨a, b⟩) ⟨c, d⟩ W9 HS1.out.rm (by show r.me = _; rw [HA.out.me]; unfold endK; split <;> rfl) (by show r.n = _; rw [HA.out.n]; unfold endK; split <;> rfl) (by have := HLEN.out.1; simp; omega)
  unfold epV at HTO
  obtain ⟨⟨p0, p1⟩, ⟨p2, p3⟩, p4, p5⟩ := HS1.out.eb.cells
  go_upto_region 6 with (first
    | (go_at_call 71; refine Calls.mono HTO.out ?_; rintro e w4 ⟨rfl, g4, hm4, hs4⟩)
    | fail)
  obtain ⟨rb4, vk4, vo4, vn4⟩ := g4
  have hrb4 : rb4 = g.rb := hs4.1
  subst hrb4
  have HS4 : Hid _ := HS1.out.go hm4 hs4
  have HAG : Hid (Agr (hearK (endK x ⟨a, b⟩) ⟨c, d⟩) (toldR (endK x ⟨a, b⟩) ({ r with kn := r.kn ++ [⟨a, b⟩], ov := r.ov ++ [⟨a, b⟩] }) ⟨c, d⟩)) := show Agr _ _ from by rw [← HOK.out]; exact (HA.out.endsR ⟨a, b⟩).told ⟨c, d⟩
  have HTU : Hid _ := rturn_any (x := hearK (endK x ⟨a, b⟩) ⟨c, d⟩) (⟨tr, tk⟩ : Ep) w4 HS4.out.rm HAG.out ((HX.out.endK _).hearK _) (by have := HLEN.out.2; unfold toldR; split <;> simp <;> omega) (by have := tgt_ok HA.out; rw [HTT.out] at this; exact this)
  unfold epV at HTU
  clear p0 p1 p2 p3 p4 p5 hm4 hs4 HTO HS1
  obtain ⟨⟨p0, p1⟩, ⟨p2, p3⟩, p4, p5⟩ := HS4.out.eb.cells
  go_wp2_with (first
    | (go_at_call 72; refine Calls.mono HTU.out ?_; rintro e w5 ⟨v5, rfl, ho5, g5, hm5, hs5⟩)
    | fail)
  go_ret
  have hen : enR x r ⟨a, b⟩ ⟨c, d⟩ = turnR (hearK (endK x ⟨a, b⟩) ⟨c, d⟩) (toldR (endK x ⟨a, b⟩) ({ r with kn := r.kn ++ [⟨a, b⟩], ov := r.ov ++ [⟨a, b⟩] }) ⟨c, d⟩) := by unfold enR; rw [HOK.out]
  have hac : enA x ⟨a, b⟩ ⟨c, d⟩ = turnA (hearK (endK x ⟨a, b⟩) ⟨c, d⟩) ⟨tr, tk⟩ := by unfold enA; rw [HTT.out]
  rw [hen, hac]
  exact ⟨v5, rfl, ownsRow_mono ho5 HS4.out.st.2.1.size, g5, hm5, HS4.out.st.trans hs5⟩
theorem rend_any {L : Nat} {g : RG} {x : EV} {r : RV} (e o : Ep) (w : World) (h : RM L g r w) (ha : Agr x r) (hx : x.Nm) (hlen : r.kn.length ≤ 999999990 ∧ r.ov.length ≤ 999999990) : Calls Try.prog 49 #[.pointer (some ⟨g.rb, 0, none⟩), epV e, epV o] w fun q w' => ∃ v, q = .returned v ∧ w'.ownsRow w.heap.size 117 6 v (enA x e o).length (flatA (enA x e o)) ∧ ∃ g', RM L g' (enR x r e o) w' ∧ RStp g g' w w' := by
  obtain ⟨a, b⟩ := e
  obtain ⟨c, d⟩ := o
  obtain ⟨tr, tk, hT⟩ : ∃ tr tk, tgtE x x.n = ⟨tr, tk⟩ := ⟨_, _, rfl⟩
  have hon := other_one ha a b
  cases h1 : oneB r.n a b
  · exact rend_1 a b c d tr tk w h ha hx hlen hT rfl (by unfold endR; rw [hon, h1, if_neg (by simp)]) h1
  · by_cases h2 : b = (x.me : Int)
    · exact rend_2 a b c d tr tk w h ha hx hlen hT rfl (by unfold endR; rw [hon, h1, if_neg (by simp [h2])]) h1 h2
    · exact rend_3 a b c d tr tk w h ha hx hlen hT rfl (by unfold endR; rw [hon, h1, if_pos (by simp [h2])]) h1 h2
end Go.Proofs.Ytjojhhkbebddmaa
