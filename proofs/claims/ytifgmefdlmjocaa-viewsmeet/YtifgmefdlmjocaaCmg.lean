import Derived.Test.YtifgmefdlmjocaaMt0
import Derived.Test.YtifgmefdlmjocaaJoinD
import Derived.Test.YtifgmefdlmjocaaLt4
namespace Go.Proofs.Ytifgmefdlmjocaa
open Go.RowKit Go.PlainAid Go.MapKept
set_option linter.unusedVariables false
set_option linter.unusedSimpArgs false
theorem info32s : (Try.prog.info? 32).map (·.size) = some 1 := by kernel_rfl
set_option maxRecDepth 100000 in
theorem idx4 (k : Nat) (hk : k < 4) (wr : World) : (Instr.index 49 (.agg #[.string ⟨#[97]⟩, .string ⟨#[98]⟩, .string ⟨#[98, 98]⟩, .string ⟨#[126]⟩]) (.int .i64 (k : Int))).run Try.prog wr = .ok (.string ⟨(nm4 k).toArray⟩) wr := by
  have h4 : k = 0 ∨ k = 1 ∨ k = 2 ∨ k = 3 := by omega
  rcases h4 with rfl | rfl | rfl | rfl <;> first | (simp [go_sem, nm4]; done) | (simp [go_sem, Instr.index, nm4]; done)
theorem place_ok (es : List Ent) (d u : Int) : ∀ KK, ((d = 0 ∧ u = 0) ∨ ∃ (p : Nat) (x : Ent), p < KK ∧ es[p]? = some x ∧ x.d = d ∧ x.u = u) → 0 ≤ placeTo es d u KK
  | 0, h => by
    rcases h with h | ⟨p, x, hp, _⟩
    · unfold placeTo; rw [if_pos h]; exact Int.le_refl _
    · omega
  | i + 1, h => by
    unfold placeTo
    cases he : es[i]? with
    | none =>
      simp only
      refine place_ok es d u i ?_
      rcases h with h | ⟨p, x, hp, hx, h1⟩
      · exact Or.inl h
      · refine Or.inr ⟨p, x, ?_, hx, h1⟩
        have : p ≠ i := fun e => by rw [e, he] at hx; cases hx
        omega
    | some y =>
      simp only
      split
      · omega
      · rename_i hne
        refine place_ok es d u i ?_
        rcases h with h | ⟨p, x, hp, hx, h1⟩
        · exact Or.inl h
        · refine Or.inr ⟨p, x, ?_, hx, h1⟩
          have : p ≠ i := fun e => by rw [e, he] at hx; cases hx; exact hne h1
          omega
theorem MI.known {n K : Nat} {LV Hs : Nat → List Ent} {r q j : Nat} (h : MI n K LV Hs) (hr : r < n) (hq : q < n) (hj : j < 4) : 0 ≤ placeTo (Hs (q * 4 + j)) (lookD (q : Int) (nm4 j) (LV r)).d (lookD (q : Int) (nm4 j) (LV r)).u (Hs (q * 4 + j)).length := by
  refine place_ok _ _ _ _ ?_
  unfold lookD
  cases hk : Go.Proofs.Ytifgmefdlmjocaa.look (q : Int) (nm4 j) (LV r) with
  | none => exact Or.inl ⟨rfl, rfl⟩
  | some e =>
    obtain ⟨p, x, hp, rfl⟩ := h.look hr hq hj hk
    exact Or.inr ⟨p, x, (List.getElem?_eq_some_iff.1 hp).1, hp, rfl, rfl⟩
theorem knownL_at {nm : List UInt8} {L : List Ent} {n q : Nat} (hq : q < n) : (flatR (knownL nm L n))[q * 2]? = some (.int .i64 (lookD q nm L).d) ∧ (flatR (knownL nm L n))[q * 2 + 1]? = some (.int .i64 (lookD q nm L).u) := by
  have h1 : (knownL nm L n)[q]? = some ((lookD q nm L).d, (lookD q nm L).u) := by unfold knownL; rw [List.getElem?_map, List.getElem?_range hq]; rfl
  exact flatR_get _ q _ h1
theorem MI.sane {n K : Nat} {LV Hs : Nat → List Ent} {q : Nat} {D : List Ent} (h : MI n K LV Hs) (hq : q < n) (hD : DgM Hs q D) : ∀ e ∈ D, e.sane := fun e he => by
  obtain ⟨j, hj, hi⟩ := hD.is e he
  obtain ⟨f1, f2, f3, f4, f5, f6, f7, f8, f9⟩ := h.facts hq hj hi
  refine ⟨?_, by omega, by omega, by omega⟩
  rw [f2]
  have h4 : j = 0 ∨ j = 1 ∨ j = 2 ∨ j = 3 := by omega
  rcases h4 with rfl | rfl | rfl | rfl <;> simp [nm4]
theorem own_from_row {w : World} {base n cap : Nat} {ao : Option Addr} {es : List Ent} (h : w.ownsRow base 46 7 (.slice ao n cap) n (flatV es)) : FromV w ao es := by
  obtain ⟨ao', cap', e, _, _, hf, _⟩ := own_fromV h
  cases e
  exact hf
/-- A replica takes a digest of another one. -/
theorem takeM {L tb vr vc n r q K : Nat} {hb mb : Nat → Nat} {LV : Nat → List Ent} {hv : Nat → Value} {Hs : Nat → List Ent} {sv : Value} {D : List Ent} {B : Nat} {v : Value} {w : World} (hT : TG L tb vr vc n hb mb LV hv Hs sv w) (hM : MI n K LV Hs) (hn : n ≤ 8) (hK : K ≤ 1000) (hr : r < n) (hq : q < n) (hne : q ≠ r) (ho : w.ownsRow B 46 7 v D.length (flatV D)) (hD : DgM Hs q D) :
    Calls Try.prog 19 #[.pointer (some ⟨hb r, 0, none⟩), .int .i64 (q : Int), v] w fun e w' => ∃ c : Nat, e = .returned (.tuple #[.int .i64 c, .int .i64 0]) ∧ TG L tb vr vc n hb mb (updL LV r (takeNext (r : Int) (n : Int) (q : Int) (LV r) D).1) hv Hs sv w' ∧ Chg (fun k => k = mb r) w w' := by
  obtain ⟨ao, cap, rfl, h1', h2, hf, hg⟩ := own_fromV ho
  have hV1 : Vw (hb r) (mb r) (r : Int) n (LV r) w := hT.vs r hr
  refine (take_any (me := r) (M := n) q ao D.length cap D w hV1 (by have := hM.ll r hr; omega) rfl (by unfold maxLen; have := hD.len; omega) hf (hM.sane hq hD) (fun b off e => ?_)).mono ?_
  · rw [e] at ho
    rcases ho.2 with ⟨h, _⟩ | ⟨g, c', cur, h, _, hgb, _⟩
    · cases h
    · cases h
      exact hV1.map.ne_b (show Blk w _ cur 46 from hgb)
  · rintro e w' ⟨rfl, hV, hch⟩
    rw [(hM.take hr hq hne hD).1]
    exact ⟨_, rfl, hT.tell hr hV hch, hch⟩
set_option maxRecDepth 100000 in
set_option maxHeartbeats 6400000 in
theorem comes_any {L tb vr vc n r q K : Nat} {hb mb : Nat → Nat} {LV : Nat → List Ent} {hv : Nat → Value} {Hs : Nat → List Ent} {sv : Value} {D : List Ent} {B : Nat} {v : Value} (w : World) (hT : TG L tb vr vc n hb mb LV hv Hs sv w) (hM : MI n K LV Hs) (hn : 2 ≤ n ∧ n ≤ 8) (hK : K ≤ 1000) (hr : r < n) (hq : q < n) (hne : q ≠ r) (ho : w.ownsRow B 46 7 v D.length (flatV D)) (hD : DgM Hs q D) :
    Calls Try.prog 13 #[.pointer (some ⟨tb, 0, none⟩), .int .i64 (r : Int), .agg #[.int .i64 (q : Int), v]] w fun e w' => e = .returned (.bool true) ∧ TG L tb vr vc n hb mb (updL LV r (takeNext (r : Int) (n : Int) (q : Int) (LV r) D).1) hv Hs sv w' ∧ Chg (fun k => k = mb r) w w' := by
  obtain ⟨va, vcp, hvv, _⟩ := own_slice ho
  subst hvv
  obtain ⟨lb, hlb⟩ : ∃ lb, lb = w.heap.size := ⟨_, rfl⟩
  obtain ⟨X, hX⟩ : ∃ X, X = w.alloc (.cells #[.int .i64 (q : Int), .slice va D.length vcp] 41) := ⟨_, rfl⟩
  have hbX : Below w.heap.size w X := by rw [hX]; exact (Below.refl _ _).alloc (Nat.le_refl _) _
  have HBX : Hid (Below w.heap.size w X) := hbX
  have HLB : Hid (Blk X lb #[.int .i64 (q : Int), .slice va D.length vcp] 41) := show Blk X lb #[.int .i64 (q : Int), .slice va D.length vcp] 41 from by rw [hX, hlb]; exact heap_alloc_new w _
  obtain ⟨LV2, hLV2⟩ : ∃ LV2, LV2 = updL LV r (takeNext (r : Int) (n : Int) (q : Int) (LV r) D).1 := ⟨_, rfl⟩
  have HM2 : Hid (MI n (K + 1) LV2 Hs) := show MI n (K + 1) LV2 Hs from by rw [hLV2]; exact (hM.take hr hq hne hD).2.2
  have HTX : Hid (TG L tb vr vc n hb mb LV hv Hs sv X) := hT.more hbX
  have HTK : Hid (∀ W, TG L tb vr vc n hb mb LV hv Hs sv W → Below w.heap.size w W → Calls Try.prog 19 #[.pointer (some ⟨hb r, 0, none⟩), .int .i64 (q : Int), .slice va D.length vcp] W fun e w' => ∃ c : Nat, e = .returned (.tuple #[.int .i64 c, .int .i64 0]) ∧ TG L tb vr vc n hb mb LV2 hv Hs sv w' ∧ Chg (fun k => k = mb r) W w') := fun W h hbW => by
    rw [hLV2]
    exact takeM h hM hn.2 hK hr hq hne (row_more hbW ho) hD
  rw [← hLV2]
  have HN : Hid (2 ≤ n ∧ n ≤ 8) := hn
  have HMB : Hid (mb r < w.heap.size) := (hT.vs r hr).map.lt
  have hq8 : q < 8 := by omega
  have hKK : K ≤ 1000 := hK
  have HNM : Hid (∀ W, Calls Try.prog 16 #[] W fun e w' => e = .returned (.agg #[.string ⟨#[97]⟩, .string ⟨#[98]⟩, .string ⟨#[98, 98]⟩, .string ⟨#[126]⟩]) ∧ Below W.heap.size W w') := names_any
  clear hT hM ho hD hbX hLV2 hn hK hne
  go_enter Try.func13, Try.ntmps13
  go_upto_region 1 with fail
  rw [← hX, ← hlb]
  clear hX hlb
  obtain ⟨tc0, tcr, tck0⟩ := HTX.out.cellr hr
  clear tck0
  go_wp2_with fail
  rename_i K hK
  try rw [show ∀ a : Act, a.put none undef = a from fun _ => rfl]
  refine wp_region_mix (fun wq => (wq.cell? ⟨tb, 0, none⟩ = some (.slice (some ⟨vr, 0, none⟩) n vc) ∧ wq.cell? ⟨vr, r, none⟩ = some (.pointer (some ⟨hb r, 0, none⟩))) ∧ Blk wq lb #[.int .i64 (q : Int), .slice va D.length vcp] 41) (fun i => i == 11 || i == 99) 99 (by kernel_rfl) rfl (by kernel_rfl) (by kernel_rfl) (by kernel_rfl) ?_
  refine withFrP (N := 69) rfl ?_
  intro f0 F0 hff
  have ee0 : f0 0 = Value.pointer (some ⟨tb, 0, none⟩) := hff 0
  have ee1 : f0 1 = Value.int .i64 (r : Int) := hff 1
  have ee5 : f0 5 = Value.pointer (some ⟨lb, 0, none⟩) := hff 5
  clear hff
  have HCC : (fun wq => (wq.cell? ⟨tb, 0, none⟩ = some (.slice (some ⟨vr, 0, none⟩) n vc) ∧ wq.cell? ⟨vr, r, none⟩ = some (.pointer (some ⟨hb r, 0, none⟩))) ∧ Blk wq lb #[.int .i64 (q : Int), .slice va D.length vcp] 41) (({ X with drawn := X.drawn + 1 } : World)) := ⟨⟨tc0, tcr⟩, HLB.out⟩
  refine lyp F0 rfl HCC rfl (by omega) (wanted_none rfl) (v := Value.pointer (some ⟨tb, 0, none⟩)) (fun wr hwr => by simp only [execOp, (F0.eval 0 (by omega)).trans (show _ = Value.pointer (some ⟨tb, 0, none⟩) from by simp [upd, ee0, ee1, ee5])]; first | rfl | simp [go_sem]) fun F1 => ?_
  refine lyp F1 rfl HCC rfl (by omega) (wanted_none rfl) (v := Value.pointer (some ⟨tb, 0, none⟩)) (fun wr hwr => by simp only [execOp, (F1.eval 12 (by omega)).trans (show _ = Value.pointer (some ⟨tb, 0, none⟩) from by simp [upd, ee0, ee1, ee5])]; simp [go_sem]) fun F2 => ?_
  refine lyp F2 rfl HCC rfl (by omega) (wanted_none rfl) (v := Value.pointer (some ⟨tb, 0, none⟩)) (fun wr hwr => by simp only [execOp, (F2.eval 13 (by omega)).trans (show _ = Value.pointer (some ⟨tb, 0, none⟩) from by simp [upd, ee0, ee1, ee5])]; simp [go_sem]) fun F3 => ?_
  refine lyp F3 rfl HCC rfl (by omega) (wanted_none rfl) (v := Value.slice (some ⟨vr, 0, none⟩) n vc) (fun wr hwr => by simp only [execOp, (F3.eval 14 (by omega)).trans (show _ = Value.pointer (some ⟨tb, 0, none⟩) from by simp [upd, ee0, ee1, ee5])]; simp [go_sem, hwr.1.1]) fun F4 => ?_
  refine lyp F4 rfl HCC rfl (by omega) (wanted_none rfl) (v := Value.int .i64 (r : Int)) (fun wr hwr => by simp only [execOp, (F4.eval 1 (by omega)).trans (show _ = Value.int .i64 (r : Int) from by simp [upd, ee0, ee1, ee5])]; first | rfl | simp [go_sem]) fun F5 => ?_
  refine lyp F5 rfl HCC rfl (by omega) (wanted_none rfl) (v := Value.pointer (some ⟨vr, r, none⟩)) (fun wr hwr => by simp only [execOp, (F5.eval 15 (by omega)).trans (show _ = Value.slice (some ⟨vr, 0, none⟩) n vc from by simp [upd, ee0, ee1, ee5]), (F5.eval 16 (by omega)).trans (show _ = Value.int .i64 (r : Int) from by simp [upd, ee0, ee1, ee5])]; simp only [Sem.run_bind, Sem.run_pure, Result.andThen_ok, idx_run 33 32 1 Try.underlying33 info32s wr vr 0 n vc r hr, Nat.zero_add, Nat.mul_one]; try rfl) fun F6 => ?_
  refine lyp F6 rfl HCC rfl (by omega) (wanted_none rfl) (v := Value.pointer (some ⟨hb r, 0, none⟩)) (fun wr hwr => by simp only [execOp, (F6.eval 17 (by omega)).trans (show _ = Value.pointer (some ⟨vr, r, none⟩) from by simp [upd, ee0, ee1, ee5])]; simp [go_sem, hwr.1.2]) fun F7 => ?_
  refine lyp F7 rfl HCC rfl (by omega) (wanted_none rfl) (v := Value.pointer (some ⟨lb, 0, none⟩)) (fun wr hwr => by simp only [execOp, (F7.eval 5 (by omega)).trans (show _ = Value.pointer (some ⟨lb, 0, none⟩) from by simp [upd, ee0, ee1, ee5])]; simp [go_sem]) fun F8 => ?_
  refine lyp F8 rfl HCC rfl (by omega) (wanted_none rfl) (v := Value.int .i64 (q : Int)) (fun wr hwr => by simp only [execOp, (F8.eval 19 (by omega)).trans (show _ = Value.pointer (some ⟨lb, 0, none⟩) from by simp [upd, ee0, ee1, ee5])]; simp [go_sem, show wr.cell? ⟨lb, 0, none⟩ = some (.int .i64 (q : Int)) from hwr.2.cell 0]) fun F9 => ?_
  refine lyp F9 rfl HCC rfl (by omega) (wanted_none rfl) (v := Value.pointer (some ⟨lb, 1, none⟩)) (fun wr hwr => by simp only [execOp, (F9.eval 5 (by omega)).trans (show _ = Value.pointer (some ⟨lb, 0, none⟩) from by simp [upd, ee0, ee1, ee5])]; simp [go_sem]) fun F10 => ?_
  refine lyp F10 rfl HCC rfl (by omega) (wanted_none rfl) (v := Value.slice va D.length vcp) (fun wr hwr => by simp only [execOp, (F10.eval 21 (by omega)).trans (show _ = Value.pointer (some ⟨lb, 1, none⟩) from by simp [upd, ee0, ee1, ee5])]; simp [go_sem, show wr.cell? ⟨lb, 1, none⟩ = some (.slice va D.length vcp) from hwr.2.cell 1]) fun F11 => ?_
  refine lcp F11 rfl HCC rfl (by omega) (wanted_none rfl) (g := 19) (args := #[Value.pointer (some ⟨hb r, 0, none⟩), Value.int .i64 (q : Int), Value.slice va D.length vcp]) (by simp only [execOp, resolve, invoke, List.map_toArray, List.map_cons, List.map_nil, (F11.eval 18 (by omega)).trans (show _ = Value.pointer (some ⟨hb r, 0, none⟩) from by simp [upd, ee0, ee1, ee5]), (F11.eval 20 (by omega)).trans (show _ = Value.int .i64 (q : Int) from by simp [upd, ee0, ee1, ee5]), (F11.eval 22 (by omega)).trans (show _ = Value.slice va D.length vcp from by simp [upd, ee0, ee1, ee5])]; simp [go_sem, Act.eval]) (HTK.out (({ X with drawn := X.drawn + 1 } : World)) (HTX.out.more (show Below X.heap.size X (({ X with drawn := X.drawn + 1 } : World)) from Below.drew (Below.refl _ _))) (HBX.out.trans ((show Below X.heap.size X (({ X with drawn := X.drawn + 1 } : World)) from Below.drew (Below.refl _ _)).mono HBX.out.size))) ?_
  rintro e9 Y ⟨c, rfl, hY, hYc⟩
  refine ⟨_, rfl, fun F12 => ?_⟩
  have hYB : Blk Y lb #[.int .i64 (q : Int), .slice va D.length vcp] 41 := hYc.blk (show Blk (({ X with drawn := X.drawn + 1 } : World)) lb #[.int .i64 (q : Int), .slice va D.length vcp] 41 from HLB.out) ((HTX.out.vs r hr).map.ne_b HLB.out)
  have hYC : Chg (fun k => k = mb r) w Y := (Chg.ofBelow _ HBX.out).trans (show Chg (fun k => k = mb r) X Y from (Chg.ofBelow _ (show Below X.heap.size X (({ X with drawn := X.drawn + 1 } : World)) from Below.drew (Below.refl _ _))).trans hYc (fun _ _ e => e)) (fun _ _ e => e)
  obtain ⟨yc0, ycr, yck0⟩ := hY.cellr hr
  clear yck0
  have HC2 : (fun wq => (wq.cell? ⟨tb, 0, none⟩ = some (.slice (some ⟨vr, 0, none⟩) n vc) ∧ wq.cell? ⟨vr, r, none⟩ = some (.pointer (some ⟨hb r, 0, none⟩))) ∧ Blk wq lb #[.int .i64 (q : Int), .slice va D.length vcp] 41) Y := ⟨⟨yc0, ycr⟩, hYB⟩
  refine lyp F12 rfl HC2 rfl (by omega) (wanted_none rfl) (v := Value.tuple #[.int .i64 (c : Nat), .int .i64 0]) (fun wr hwr => by simp only [execOp, (F12.eval 23 (by omega)).trans (show _ = Value.tuple #[.int .i64 (c : Nat), .int .i64 0] from by simp [upd, ee0, ee1, ee5])]; first | rfl | simp [go_sem]) fun F13 => ?_
  refine lyp F13 rfl HC2 rfl (by omega) (wanted_none rfl) (v := Value.int .i64 (c : Nat)) (fun wr hwr => by simp only [execOp, (F13.eval 11 (by omega)).trans (show _ = Value.tuple #[.int .i64 (c : Nat), .int .i64 0] from by simp [upd, ee0, ee1, ee5])]; simp [go_sem]) fun F14 => ?_
  refine lyp F14 rfl HC2 rfl (by omega) (wanted_none rfl) (v := Value.int .i64 0) (fun wr hwr => by simp only [execOp, (F14.eval 11 (by omega)).trans (show _ = Value.tuple #[.int .i64 (c : Nat), .int .i64 0] from by simp [upd, ee0, ee1, ee5])]; simp [go_sem]) fun F15 => ?_
  refine lyp F15 rfl HC2 rfl (by omega) (wanted_none rfl) (v := Value.int .i64 (c : Nat)) (fun wr hwr => by simp only [execOp, (F15.eval 24 (by omega)).trans (show _ = Value.int .i64 (c : Nat) from by simp [upd, ee0, ee1, ee5])]; first | rfl | simp [go_sem]) fun F16 => ?_
  refine lyp F16 rfl HC2 rfl (by omega) (wanted_none rfl) (v := Value.int .i64 0) (fun wr hwr => by simp only [execOp, (F16.eval 25 (by omega)).trans (show _ = Value.int .i64 0 from by simp [upd, ee0, ee1, ee5])]; first | rfl | simp [go_sem]) fun F17 => ?_
  refine ⟨fun _ => HC2, ?_⟩
  refine hK _ _ ?_
  clear F0 F1 F2 F3 F4 F5 F6 F7 F8 F9 F10 F11 F12 F13 F14 F15 F16 F17 ee0 ee1 ee5 HCC HC2 yc0 ycr
  simp only [Act.put, List.setIfInBounds_toArray, List.set_cons_succ, List.set_cons_zero]
  have HY : Hid (TG L tb vr vc n hb mb LV2 hv Hs sv Y) := hY
  have HYB : Hid (Blk Y lb #[.int .i64 (q : Int), .slice va D.length vcp] 41) := hYB
  have HYC : Hid (Chg (fun k => k = mb r) w Y) := hYC
  clear hY hYB hYC HTX HLB HBX HTK tc0 tcr
  go_wp2_with fail
  go_loopw [9] (fun s wr => ∃ k : Nat, k ≤ 4 ∧ s = .int .i64 k ∧ Below Y.heap.size Y wr) (fun s _ => 4 - (intOf s).toNat)
  case atStart => exact ⟨0, by omega, rfl, Below.refl _ _⟩
  case round =>
    obtain ⟨k, hk, rfl, hbel⟩ := hrel
    have HB : Hid (Below Y.heap.size Y wr) := hbel
    clear hbel
    by_cases hlt : k < 4
    · have HTW : Hid (TG L tb vr vc n hb mb LV2 hv Hs sv wr) := HY.out.more HB.out
      obtain ⟨tc0, tcr, tck⟩ := HTW.out.cellr hr
      have tcq := tck (q * 4 + k) (by omega)
      have HRW : Hid (wr.ownsRow L 46 7 (hv (q * 4 + k)) (Hs (q * 4 + k)).length (flatV (Hs (q * 4 + k)))) := HTW.out.rows (q * 4 + k) (by omega)
      obtain ⟨ha, hcp, hhv, _⟩ := own_slice HRW.out
      rw [hhv] at tcq
      have HPL : Hid (0 ≤ placeTo (Hs (q * 4 + k)) (lookD (q : Int) (nm4 k) (LV2 r)).d (lookD (q : Int) (nm4 k) (LV2 r)).u (Hs (q * 4 + k)).length) := HM2.out.known hr hq hlt
      have HHL : Hid ((Hs (q * 4 + k)).length ≤ 100000) := show (Hs (q * 4 + k)).length ≤ 100000 from by have := HM2.out.len (q * 4 + k); omega
      have HRF : Hid (wr.ownsRow L 46 7 (.slice ha (Hs (q * 4 + k)).length hcp) (Hs (q * 4 + k)).length (flatV (Hs (q * 4 + k)))) := show wr.ownsRow L 46 7 (.slice ha (Hs (q * 4 + k)).length hcp) (Hs (q * 4 + k)).length (flatV (Hs (q * 4 + k))) from by rw [← hhv]; exact HRW.out
      have lb0 : wr.cell? ⟨lb, 0, none⟩ = some (.int .i64 (q : Int)) := (HYB.out.below HB.out HYB.out.lt).cell 0
      have HLW : Hid (Blk wr lb #[.int .i64 (q : Int), .slice va D.length vcp] 41) := HYB.out.below HB.out HYB.out.lt
      have hn16 : n ≤ 16 := by have := HN.out; omega
      clear tck hhv HRW
      go_wp2_with fail
      rename_i K hK
      try rw [show ∀ a : Act, a.put none undef = a from fun _ => rfl]
      refine wp_region_mix (fun wq => wq.cell? ⟨tb, 0, none⟩ = some (.slice (some ⟨vr, 0, none⟩) n vc) ∧ wq.cell? ⟨vr, r, none⟩ = some (.pointer (some ⟨hb r, 0, none⟩))) (fun i => i == 7 || i == 10 || i == 99) 99 (by kernel_rfl) rfl (by kernel_rfl) (by kernel_rfl) (by kernel_rfl) ?_
      refine withFrP (N := 69) rfl ?_
      intro f0 F0 hff
      have ee0 : f0 0 = Value.pointer (some ⟨tb, 0, none⟩) := hff 0
      have ee1 : f0 1 = Value.int .i64 (r : Int) := hff 1
      have ee9 : f0 9 = Value.int .i64 (k : Int) := hff 9
      clear hff
      have HCC : (fun wq => wq.cell? ⟨tb, 0, none⟩ = some (.slice (some ⟨vr, 0, none⟩) n vc) ∧ wq.cell? ⟨vr, r, none⟩ = some (.pointer (some ⟨hb r, 0, none⟩))) (({ wr with drawn := wr.drawn + 1 } : World)) := ⟨tc0, tcr⟩
      refine lyp F0 rfl HCC rfl (by omega) (wanted_none rfl) (v := Value.pointer (some ⟨tb, 0, none⟩)) (fun wr hwr => by simp only [execOp, (F0.eval 0 (by omega)).trans (show _ = Value.pointer (some ⟨tb, 0, none⟩) from by simp [upd, ee0, ee1, ee9])]; first | rfl | simp [go_sem]) fun F1 => ?_
      refine lyp F1 rfl HCC rfl (by omega) (wanted_none rfl) (v := Value.pointer (some ⟨tb, 0, none⟩)) (fun wr hwr => by simp only [execOp, (F1.eval 32 (by omega)).trans (show _ = Value.pointer (some ⟨tb, 0, none⟩) from by simp [upd, ee0, ee1, ee9])]; simp [go_sem]) fun F2 => ?_
      refine lyp F2 rfl HCC rfl (by omega) (wanted_none rfl) (v := Value.pointer (some ⟨tb, 0, none⟩)) (fun wr hwr => by simp only [execOp, (F2.eval 33 (by omega)).trans (show _ = Value.pointer (some ⟨tb, 0, none⟩) from by simp [upd, ee0, ee1, ee9])]; simp [go_sem]) fun F3 => ?_
      refine lyp F3 rfl HCC rfl (by omega) (wanted_none rfl) (v := Value.slice (some ⟨vr, 0, none⟩) n vc) (fun wr hwr => by simp only [execOp, (F3.eval 34 (by omega)).trans (show _ = Value.pointer (some ⟨tb, 0, none⟩) from by simp [upd, ee0, ee1, ee9])]; simp [go_sem, hwr.1]) fun F4 => ?_
      refine lyp F4 rfl HCC rfl (by omega) (wanted_none rfl) (v := Value.int .i64 (r : Int)) (fun wr hwr => by simp only [execOp, (F4.eval 1 (by omega)).trans (show _ = Value.int .i64 (r : Int) from by simp [upd, ee0, ee1, ee9])]; first | rfl | simp [go_sem]) fun F5 => ?_
      refine lyp F5 rfl HCC rfl (by omega) (wanted_none rfl) (v := Value.pointer (some ⟨vr, r, none⟩)) (fun wr hwr => by simp only [execOp, (F5.eval 35 (by omega)).trans (show _ = Value.slice (some ⟨vr, 0, none⟩) n vc from by simp [upd, ee0, ee1, ee9]), (F5.eval 36 (by omega)).trans (show _ = Value.int .i64 (r : Int) from by simp [upd, ee0, ee1, ee9])]; simp only [Sem.run_bind, Sem.run_pure, Result.andThen_ok, idx_run 33 32 1 Try.underlying33 info32s wr vr 0 n vc r hr, Nat.zero_add, Nat.mul_one]; try rfl) fun F6 => ?_
      refine lyp F6 rfl HCC rfl (by omega) (wanted_none rfl) (v := Value.pointer (some ⟨hb r, 0, none⟩)) (fun wr hwr => by simp only [execOp, (F6.eval 37 (by omega)).trans (show _ = Value.pointer (some ⟨vr, r, none⟩) from by simp [upd, ee0, ee1, ee9])]; simp [go_sem, hwr.2]) fun F7 => ?_
      refine lcp F7 rfl HCC rfl (by omega) (wanted_none rfl) (g := 16) (args := #[]) (by simp only [execOp, resolve, invoke, List.map_toArray, List.map_cons, List.map_nil, ]; simp [go_sem, Act.eval]) (HNM.out (({ wr with drawn := wr.drawn + 1 } : World))) ?_
      rintro e9 U ⟨rfl, hbU0⟩
      have hbU : Below wr.heap.size wr U := (show Below wr.heap.size wr (({ wr with drawn := wr.drawn + 1 } : World)) from Below.drew (Below.refl _ _)).trans hbU0
      refine ⟨_, rfl, fun F8 => ?_⟩
      have HC2 : (fun wq => wq.cell? ⟨tb, 0, none⟩ = some (.slice (some ⟨vr, 0, none⟩) n vc) ∧ wq.cell? ⟨vr, r, none⟩ = some (.pointer (some ⟨hb r, 0, none⟩))) U := ⟨cell_below hbU tc0, cell_below hbU tcr⟩
      refine lyp F8 rfl HC2 rfl (by omega) (wanted_none rfl) (v := Value.int .i64 (k : Int)) (fun wr hwr => by simp only [execOp, (F8.eval 9 (by omega)).trans (show _ = Value.int .i64 (k : Int) from by simp [upd, ee0, ee1, ee9])]; first | rfl | simp [go_sem]) fun F9 => ?_
      refine lyp F9 rfl HC2 rfl (by omega) (wanted_none rfl) (v := Value.string ⟨(nm4 k).toArray⟩) (fun wr hwr => by simp only [execOp, (F9.eval 39 (by omega)).trans (show _ = Value.agg #[.string ⟨#[97]⟩, .string ⟨#[98]⟩, .string ⟨#[98, 98]⟩, .string ⟨#[126]⟩] from by simp [upd, ee0, ee1, ee9]), (F9.eval 40 (by omega)).trans (show _ = Value.int .i64 (k : Int) from by simp [upd, ee0, ee1, ee9])]; simp only [Sem.run_bind, Sem.run_pure, Result.andThen_ok, idx4 k hlt]; try rfl) fun F10 => ?_
      refine lcp F10 rfl HC2 rfl (by omega) (wanted_none rfl) (g := 17) (args := #[Value.pointer (some ⟨hb r, 0, none⟩), Value.string ⟨(nm4 k).toArray⟩]) (by simp only [execOp, resolve, invoke, List.map_toArray, List.map_cons, List.map_nil, (F10.eval 38 (by omega)).trans (show _ = Value.pointer (some ⟨hb r, 0, none⟩) from by simp [upd, ee0, ee1, ee9]), (F10.eval 41 (by omega)).trans (show _ = Value.string ⟨(nm4 k).toArray⟩ from by simp [upd, ee0, ee1, ee9])]; simp [go_sem, Act.eval]) (known_any (N := n) (nm4 k) U ((HTW.out.more hbU).vs r hr) hn16) ?_
      rintro e9 Z ⟨g, rfl, hgl, hgB, hbZ0⟩
      have hbZ : Below wr.heap.size wr Z := hbU.trans (hbZ0.mono hbU.size)
      refine ⟨_, rfl, fun F11 => ?_⟩
      have HC3 : (fun wq => wq.cell? ⟨tb, 0, none⟩ = some (.slice (some ⟨vr, 0, none⟩) n vc) ∧ wq.cell? ⟨vr, r, none⟩ = some (.pointer (some ⟨hb r, 0, none⟩))) Z := ⟨cell_below hbZ tc0, cell_below hbZ tcr⟩
      refine lyp F11 rfl HC3 rfl (by omega) (wanted_none rfl) (v := Value.slice (some ⟨g, 0, none⟩) n n) (fun wr hwr => by simp only [execOp, (F11.eval 42 (by omega)).trans (show _ = Value.slice (some ⟨g, 0, none⟩) n n from by simp [upd, ee0, ee1, ee9])]; first | rfl | simp [go_sem]) fun F12 => ?_
      refine ⟨fun _ => HC3, ?_⟩
      refine hK _ _ ?_
      clear F0 F1 F2 F3 F4 F5 F6 F7 F8 F9 F10 F11 F12 ee0 ee1 ee9 HCC HC2 HC3 hbU0 hbU hbZ0
      simp only [Act.put, List.setIfInBounds_toArray, List.set_cons_succ, List.set_cons_zero]
      have HB7 : Hid (Below wr.heap.size wr Z) := hbZ
      obtain ⟨kd0, kd1⟩ := knownL_at (nm := nm4 k) (L := LV2 r) (n := n) hq
      have kc0 : Z.cell? ⟨g, q * 2, none⟩ = some (.int .i64 (lookD (q : Int) (nm4 k) (LV2 r)).d) := (hgB.cell _).trans (by rw [List.getElem?_toArray]; exact kd0)
      have kc1 : Z.cell? ⟨g, q * 2 + 1, none⟩ = some (.int .i64 (lookD (q : Int) (nm4 k) (LV2 r)).u) := (hgB.cell _).trans (by rw [List.getElem?_toArray]; exact kd1)
      have tz0 := cell_below hbZ tc0
      have tzq := cell_below hbZ tcq
      have lz0 := cell_below hbZ lb0
      have HRZ : Hid (Z.ownsRow L 46 7 (.slice ha (Hs (q * 4 + k)).length hcp) (Hs (q * 4 + k)).length (flatV (Hs (q * 4 + k)))) := row_more hbZ HRF.out
      generalize (lookD (q : Int) (nm4 k) (LV2 r)).d = kd at *
      generalize (lookD (q : Int) (nm4 k) (LV2 r)).u = ku at *
      clear hbZ hgB kd0 kd1 tc0 tcr tcq lb0 HRF HLW HTW hgl
      go_wp2_with fail
      rename_i K hK
      try rw [show ∀ a : Act, a.put none undef = a from fun _ => rfl]
      refine wp_region_mix (fun wq => (wq.cell? ⟨tb, 0, none⟩ = some (.slice (some ⟨vr, 0, none⟩) n vc) ∧ wq.cell? ⟨tb, 1 + (q * 4 + k), none⟩ = some (.slice ha (Hs (q * 4 + k)).length hcp)) ∧ wq.cell? ⟨lb, 0, none⟩ = some (.int .i64 (q : Int)) ∧ wq.cell? ⟨g, q * 2, none⟩ = some (.int .i64 kd) ∧ wq.cell? ⟨g, q * 2 + 1, none⟩ = some (.int .i64 ku)) (fun i => i == 23 || i == 99) 99 (by kernel_rfl) rfl (by kernel_rfl) (by kernel_rfl) (by kernel_rfl) ?_
      refine withFrP (N := 69) rfl ?_
      intro f0 F0 hff
      have ee0 : f0 0 = Value.pointer (some ⟨tb, 0, none⟩) := hff 0
      have ee1 : f0 1 = Value.int .i64 (r : Int) := hff 1
      have ee9 : f0 9 = Value.int .i64 (k : Int) := hff 9
      have ee10 : f0 10 = Value.slice (some ⟨g, 0, none⟩) n n := hff 10
      have ee5 : f0 5 = Value.pointer (some ⟨lb, 0, none⟩) := hff 5
      clear hff
      have HCC : (fun wq => (wq.cell? ⟨tb, 0, none⟩ = some (.slice (some ⟨vr, 0, none⟩) n vc) ∧ wq.cell? ⟨tb, 1 + (q * 4 + k), none⟩ = some (.slice ha (Hs (q * 4 + k)).length hcp)) ∧ wq.cell? ⟨lb, 0, none⟩ = some (.int .i64 (q : Int)) ∧ wq.cell? ⟨g, q * 2, none⟩ = some (.int .i64 kd) ∧ wq.cell? ⟨g, q * 2 + 1, none⟩ = some (.int .i64 ku)) (({ Z with drawn := Z.drawn + 1 } : World)) := ⟨⟨tz0, tzq⟩, lz0, kc0, kc1⟩
      refine lyp F0 rfl HCC rfl (by omega) (wanted_none rfl) (v := Value.slice (some ⟨g, 0, none⟩) n n) (fun wr hwr => by simp only [execOp, (F0.eval 10 (by omega)).trans (show _ = Value.slice (some ⟨g, 0, none⟩) n n from by simp [upd, ee0, ee1, ee9, ee10, ee5])]; first | rfl | simp [go_sem]) fun F1 => ?_
      refine lyp F1 rfl HCC rfl (by omega) (wanted_none rfl) (v := Value.int .i64 (n : Nat)) (fun wr hwr => by simp only [execOp, resolve, invoke, builtin, List.map_toArray, List.map_cons, List.map_nil, (F1.eval 43 (by omega)).trans (show _ = Value.slice (some ⟨g, 0, none⟩) n n from by simp [upd, ee0, ee1, ee9, ee10, ee5])]; simp [go_sem, Builtin.len_, Builtin.lenOf]) fun F2 => ?_
      refine lyp F2 rfl HCC rfl (by omega) (wanted_none rfl) (v := Value.pointer (some ⟨tb, 0, none⟩)) (fun wr hwr => by simp only [execOp, (F2.eval 0 (by omega)).trans (show _ = Value.pointer (some ⟨tb, 0, none⟩) from by simp [upd, ee0, ee1, ee9, ee10, ee5])]; first | rfl | simp [go_sem]) fun F3 => ?_
      refine lyp F3 rfl HCC rfl (by omega) (wanted_none rfl) (v := Value.pointer (some ⟨tb, 0, none⟩)) (fun wr hwr => by simp only [execOp, (F3.eval 45 (by omega)).trans (show _ = Value.pointer (some ⟨tb, 0, none⟩) from by simp [upd, ee0, ee1, ee9, ee10, ee5])]; simp [go_sem]) fun F4 => ?_
      refine lyp F4 rfl HCC rfl (by omega) (wanted_none rfl) (v := Value.pointer (some ⟨tb, 0, none⟩)) (fun wr hwr => by simp only [execOp, (F4.eval 46 (by omega)).trans (show _ = Value.pointer (some ⟨tb, 0, none⟩) from by simp [upd, ee0, ee1, ee9, ee10, ee5])]; simp [go_sem]) fun F5 => ?_
      refine lyp F5 rfl HCC rfl (by omega) (wanted_none rfl) (v := Value.slice (some ⟨vr, 0, none⟩) n vc) (fun wr hwr => by simp only [execOp, (F5.eval 47 (by omega)).trans (show _ = Value.pointer (some ⟨tb, 0, none⟩) from by simp [upd, ee0, ee1, ee9, ee10, ee5])]; simp [go_sem, hwr.1.1]) fun F6 => ?_
      refine lyp F6 rfl HCC rfl (by omega) (wanted_none rfl) (v := Value.int .i64 (n : Nat)) (fun wr hwr => by simp only [execOp, resolve, invoke, builtin, List.map_toArray, List.map_cons, List.map_nil, (F6.eval 48 (by omega)).trans (show _ = Value.slice (some ⟨vr, 0, none⟩) n vc from by simp [upd, ee0, ee1, ee9, ee10, ee5])]; simp [go_sem, Builtin.len_, Builtin.lenOf]) fun F7 => ?_
      refine lyp F7 rfl HCC rfl (by omega) (wanted_none rfl) (v := Value.bool false) (fun wr hwr => by simp only [execOp, (F7.eval 44 (by omega)).trans (show _ = Value.int .i64 (n : Nat) from by simp [upd, ee0, ee1, ee9, ee10, ee5]), (F7.eval 49 (by omega)).trans (show _ = Value.int .i64 (n : Nat) from by simp [upd, ee0, ee1, ee9, ee10, ee5])]; simp [go_sem, Act.eval]) fun F8 => ?_
      refine lyp F8 rfl HCC rfl (by omega) (wanted_none rfl) (v := Value.bool false) (fun wr hwr => by simp only [execOp, (F8.eval 50 (by omega)).trans (show _ = Value.bool false from by simp [upd, ee0, ee1, ee9, ee10, ee5])]; first | rfl | simp [go_sem]) fun F9 => ?_
      refine lyp F9 rfl HCC rfl (by omega) (want_yes F9 rfl (e := 51) rfl (by omega) (show _ = Value.bool false from by simp [upd, ee0, ee1, ee9, ee10, ee5])) (v := Value.pointer (some ⟨tb, 0, none⟩)) (fun wr hwr => by simp only [execOp, (F9.eval 0 (by omega)).trans (show _ = Value.pointer (some ⟨tb, 0, none⟩) from by simp [upd, ee0, ee1, ee9, ee10, ee5])]; first | rfl | simp [go_sem]) fun F10 => ?_
      refine lyp F10 rfl HCC rfl (by omega) (want_yes F10 rfl (e := 51) rfl (by omega) (show _ = Value.bool false from by simp [upd, ee0, ee1, ee9, ee10, ee5])) (v := Value.pointer (some ⟨lb, 0, none⟩)) (fun wr hwr => by simp only [execOp, (F10.eval 5 (by omega)).trans (show _ = Value.pointer (some ⟨lb, 0, none⟩) from by simp [upd, ee0, ee1, ee9, ee10, ee5])]; simp [go_sem]) fun F11 => ?_
      refine lyp F11 rfl HCC rfl (by omega) (want_yes F11 rfl (e := 51) rfl (by omega) (show _ = Value.bool false from by simp [upd, ee0, ee1, ee9, ee10, ee5])) (v := Value.int .i64 (q : Int)) (fun wr hwr => by simp only [execOp, (F11.eval 53 (by omega)).trans (show _ = Value.pointer (some ⟨lb, 0, none⟩) from by simp [upd, ee0, ee1, ee9, ee10, ee5])]; simp [go_sem, hwr.2.1]) fun F12 => ?_
      refine lyp F12 rfl HCC rfl (by omega) (want_yes F12 rfl (e := 51) rfl (by omega) (show _ = Value.bool false from by simp [upd, ee0, ee1, ee9, ee10, ee5])) (v := Value.int .i64 (k : Int)) (fun wr hwr => by simp only [execOp, (F12.eval 9 (by omega)).trans (show _ = Value.int .i64 (k : Int) from by simp [upd, ee0, ee1, ee9, ee10, ee5])]; first | rfl | simp [go_sem]) fun F13 => ?_
      refine lyp F13 rfl HCC rfl (by omega) (want_yes F13 rfl (e := 51) rfl (by omega) (show _ = Value.bool false from by simp [upd, ee0, ee1, ee9, ee10, ee5])) (v := Value.pointer (some ⟨tb, 0, none⟩)) (fun wr hwr => by simp only [execOp, (F13.eval 52 (by omega)).trans (show _ = Value.pointer (some ⟨tb, 0, none⟩) from by simp [upd, ee0, ee1, ee9, ee10, ee5])]; simp [go_sem]) fun F14 => ?_
      refine lyp F14 rfl HCC rfl (by omega) (want_yes F14 rfl (e := 51) rfl (by omega) (show _ = Value.bool false from by simp [upd, ee0, ee1, ee9, ee10, ee5])) (v := Value.pointer (some ⟨tb, 1, none⟩)) (fun wr hwr => by simp only [execOp, (F14.eval 56 (by omega)).trans (show _ = Value.pointer (some ⟨tb, 0, none⟩) from by simp [upd, ee0, ee1, ee9, ee10, ee5])]; simp [go_sem]) fun F15 => ?_
      refine lyp F15 rfl HCC rfl (by omega) (want_yes F15 rfl (e := 51) rfl (by omega) (show _ = Value.bool false from by simp [upd, ee0, ee1, ee9, ee10, ee5])) (v := Value.pointer (some ⟨tb, 1 + q * 4, none⟩)) (fun wr hwr => by simp only [execOp, (F15.eval 57 (by omega)).trans (show _ = Value.pointer (some ⟨tb, 1, none⟩) from by simp [upd, ee0, ee1, ee9, ee10, ee5]), (F15.eval 54 (by omega)).trans (show _ = Value.int .i64 (q : Int) from by simp [upd, ee0, ee1, ee9, ee10, ee5])]; simp [go_sem, hq8, show ¬ (8 : Int) ≤ (q : Int) from by omega]) fun F16 => ?_
      refine lyp F16 rfl HCC rfl (by omega) (want_yes F16 rfl (e := 51) rfl (by omega) (show _ = Value.bool false from by simp [upd, ee0, ee1, ee9, ee10, ee5])) (v := Value.pointer (some ⟨tb, 1 + (q * 4 + k), none⟩)) (fun wr hwr => by simp only [execOp, (F16.eval 58 (by omega)).trans (show _ = Value.pointer (some ⟨tb, 1 + q * 4, none⟩) from by simp [upd, ee0, ee1, ee9, ee10, ee5]), (F16.eval 55 (by omega)).trans (show _ = Value.int .i64 (k : Int) from by simp [upd, ee0, ee1, ee9, ee10, ee5])]; simp [go_sem, hlt, show ¬ (4 : Int) ≤ (k : Int) from by omega, Nat.add_assoc]) fun F17 => ?_
      refine lyp F17 rfl HCC rfl (by omega) (want_yes F17 rfl (e := 51) rfl (by omega) (show _ = Value.bool false from by simp [upd, ee0, ee1, ee9, ee10, ee5])) (v := Value.slice ha (Hs (q * 4 + k)).length hcp) (fun wr hwr => by simp only [execOp, (F17.eval 59 (by omega)).trans (show _ = Value.pointer (some ⟨tb, 1 + (q * 4 + k), none⟩) from by simp [upd, ee0, ee1, ee9, ee10, ee5])]; simp [go_sem, hwr.1.2]) fun F18 => ?_
      refine lyp F18 rfl HCC rfl (by omega) (want_yes F18 rfl (e := 51) rfl (by omega) (show _ = Value.bool false from by simp [upd, ee0, ee1, ee9, ee10, ee5])) (v := Value.slice (some ⟨g, 0, none⟩) n n) (fun wr hwr => by simp only [execOp, (F18.eval 10 (by omega)).trans (show _ = Value.slice (some ⟨g, 0, none⟩) n n from by simp [upd, ee0, ee1, ee9, ee10, ee5])]; first | rfl | simp [go_sem]) fun F19 => ?_
      refine lyp F19 rfl HCC rfl (by omega) (want_yes F19 rfl (e := 51) rfl (by omega) (show _ = Value.bool false from by simp [upd, ee0, ee1, ee9, ee10, ee5])) (v := Value.pointer (some ⟨lb, 0, none⟩)) (fun wr hwr => by simp only [execOp, (F19.eval 5 (by omega)).trans (show _ = Value.pointer (some ⟨lb, 0, none⟩) from by simp [upd, ee0, ee1, ee9, ee10, ee5])]; simp [go_sem]) fun F20 => ?_
      refine lyp F20 rfl HCC rfl (by omega) (want_yes F20 rfl (e := 51) rfl (by omega) (show _ = Value.bool false from by simp [upd, ee0, ee1, ee9, ee10, ee5])) (v := Value.int .i64 (q : Int)) (fun wr hwr => by simp only [execOp, (F20.eval 62 (by omega)).trans (show _ = Value.pointer (some ⟨lb, 0, none⟩) from by simp [upd, ee0, ee1, ee9, ee10, ee5])]; simp [go_sem, hwr.2.1]) fun F21 => ?_
      refine lyp F21 rfl HCC rfl (by omega) (want_yes F21 rfl (e := 51) rfl (by omega) (show _ = Value.bool false from by simp [upd, ee0, ee1, ee9, ee10, ee5])) (v := Value.pointer (some ⟨g, q * 2, none⟩)) (fun wr hwr => by simp only [execOp, (F21.eval 61 (by omega)).trans (show _ = Value.slice (some ⟨g, 0, none⟩) n n from by simp [upd, ee0, ee1, ee9, ee10, ee5]), (F21.eval 63 (by omega)).trans (show _ = Value.int .i64 (q : Int) from by simp [upd, ee0, ee1, ee9, ee10, ee5])]; simp only [Sem.run_bind, Sem.run_pure, Result.andThen_ok, idx_run 42 44 2 Try.underlying42 info44s wr g 0 n n q hq, Nat.zero_add]; try rfl) fun F22 => ?_
      refine lyp F22 rfl HCC rfl (by omega) (want_yes F22 rfl (e := 51) rfl (by omega) (show _ = Value.bool false from by simp [upd, ee0, ee1, ee9, ee10, ee5])) (v := Value.agg #[.int .i64 kd, .int .i64 ku]) (fun wr hwr => by simp only [execOp, (F22.eval 64 (by omega)).trans (show _ = Value.pointer (some ⟨g, q * 2, none⟩) from by simp [upd, ee0, ee1, ee9, ee10, ee5])]; simp [go_sem, hwr.2.2.1, hwr.2.2.2]) fun F23 => ?_
      refine lcp F23 rfl HCC rfl (by omega) (want_yes F23 rfl (e := 51) rfl (by omega) (show _ = Value.bool false from by simp [upd, ee0, ee1, ee9, ee10, ee5])) (g := 25) (args := #[Value.slice ha (Hs (q * 4 + k)).length hcp, Value.agg #[.int .i64 kd, .int .i64 ku]]) (by simp only [execOp, resolve, invoke, List.map_toArray, List.map_cons, List.map_nil, (F23.eval 60 (by omega)).trans (show _ = Value.slice ha (Hs (q * 4 + k)).length hcp from by simp [upd, ee0, ee1, ee9, ee10, ee5]), (F23.eval 65 (by omega)).trans (show _ = Value.agg #[.int .i64 kd, .int .i64 ku] from by simp [upd, ee0, ee1, ee9, ee10, ee5])]; simp [go_sem, Act.eval]) (place_any ha (Hs (q * 4 + k)).length hcp (Hs (q * 4 + k)) kd ku (({ Z with drawn := Z.drawn + 1 } : World)) rfl HHL.out (own_from_row (row_more (show Below Z.heap.size Z (({ Z with drawn := Z.drawn + 1 } : World)) from Below.drew (Below.refl _ _)) HRZ.out))) ?_
      rintro e9 V ⟨rfl, hbV0⟩
      have hbV : Below Z.heap.size Z V := (show Below Z.heap.size Z (({ Z with drawn := Z.drawn + 1 } : World)) from Below.drew (Below.refl _ _)).trans hbV0
      refine ⟨_, rfl, fun F24 => ?_⟩
      have HC2 : (fun wq => (wq.cell? ⟨tb, 0, none⟩ = some (.slice (some ⟨vr, 0, none⟩) n vc) ∧ wq.cell? ⟨tb, 1 + (q * 4 + k), none⟩ = some (.slice ha (Hs (q * 4 + k)).length hcp)) ∧ wq.cell? ⟨lb, 0, none⟩ = some (.int .i64 (q : Int)) ∧ wq.cell? ⟨g, q * 2, none⟩ = some (.int .i64 kd) ∧ wq.cell? ⟨g, q * 2 + 1, none⟩ = some (.int .i64 ku)) V := ⟨⟨cell_below hbV tz0, cell_below hbV tzq⟩, cell_below hbV lz0, cell_below hbV kc0, cell_below hbV kc1⟩
      refine lyp F24 rfl HC2 rfl (by omega) (want_yes F24 rfl (e := 51) rfl (by omega) (show _ = Value.bool false from by simp [upd, ee0, ee1, ee9, ee10, ee5])) (v := Value.bool false) (fun wr hwr => by simp only [execOp, (F24.eval 66 (by omega)).trans (show _ = Value.int .i64 (placeTo (Hs (q * 4 + k)) kd ku (Hs (q * 4 + k)).length) from by simp [upd, ee0, ee1, ee9, ee10, ee5])]; simp [go_sem, Act.eval, Int.not_lt.2 HPL.out]) fun F25 => ?_
      refine lyp F25 rfl HC2 rfl (by omega) (wanted_none rfl) (v := Value.bool false) (fun wr hwr => by simp only [execOp, (F25.eval 51 (by omega)).trans (show _ = Value.bool false from by simp [upd, ee0, ee1, ee9, ee10, ee5]), (F25.eval 67 (by omega)).trans (show _ = Value.bool false from by simp [upd, ee0, ee1, ee9, ee10, ee5])]; simp [go_sem, Act.eval]) fun F26 => ?_
      refine ⟨fun _ => HC2, ?_⟩
      refine hK _ _ ?_
      clear F0 F1 F2 F3 F4 F5 F6 F7 F8 F9 F10 F11 F12 F13 F14 F15 F16 F17 F18 F19 F20 F21 F22 F23 F24 F25 F26 ee0 ee1 ee9 ee10 ee5 HCC HC2 hbV0
      simp only [Act.put, List.setIfInBounds_toArray, List.set_cons_succ, List.set_cons_zero]
      have HB9 : Hid (Below Y.heap.size Y V) := HB.out.trans ((HB7.out.trans (hbV.mono HB7.out.size)).mono HB.out.size)
      clear hbV kc0 kc1 tz0 tzq lz0 HRZ HB7
      go_wp2_with fail
      go_roundw
      case rel => exact ⟨k + 1, by omega, by go_num, HB9.out⟩
      case measure => simp [intOf]; omega
    · go_wp2_with fail
      go_ret
      refine ⟨rfl, HY.out.more HB.out, HYC.out.trans (Chg.ofBelow (fun _ => False) HB.out) (fun _ _ e => e.elim)⟩
end Go.Proofs.Ytifgmefdlmjocaa
