import Derived.Test.YtifgmefdlmjocaaKns
namespace Go.Proofs.Ytifgmefdlmjocaa
open Go.RowKit Go.PlainAid Go.MapKept
set_option linter.unusedVariables false
set_option linter.unusedSimpArgs false
/-- The marks of apart: each list has its own. -/
def vmk (mark : Int) (n : Nat) : List Ent := (List.range n).map fun (k : Nat) => ⟨0, [], k, 0, mark, 0, 0, 0⟩
def rmk (mark : Int) (n : Nat) : List (Int × Int) := (List.range n).map fun (k : Nat) => (mark, (k : Int))
theorem vmk_len (mark : Int) (n : Nat) : (vmk mark n).length = n := by simp [vmk]
theorem rmk_len (mark : Int) (n : Nat) : (rmk mark n).length = n := by simp [rmk]
theorem vmk_at {mark : Int} {n i : Nat} (h : i < n) : (vmk mark n)[i]? = some ⟨0, [], i, 0, mark, 0, 0, 0⟩ := by simp [vmk, h]
theorem rmk_at {mark : Int} {n i : Nat} (h : i < n) : (rmk mark n)[i]? = some (mark, (i : Int)) := by simp [rmk, h]
set_option maxRecDepth 100000 in
set_option maxHeartbeats 3200000 in
theorem viewed_any {La n : Nat} {v : Value} (mark : Int) (w : World) (hd : w.ownsRow La 46 7 v n (flatV (vmk mark n))) (h1 : n ≤ 100000) :
    Calls Try.prog 49 #[v, .int .i64 mark] w fun e w' => e = .returned (.bool true) ∧ w' = w := by
  obtain ⟨da, dc, hdv, _, _, hdc⟩ := own_read hd
  subst hdv
  have HDC : Hid (0 < n → ∃ g, da = some ⟨g, 0, none⟩ ∧ La ≤ g ∧ g < w.heap.size ∧ ∀ j u, (flatV (vmk mark n))[j]? = some u → w.cell? ⟨g, j, none⟩ = some u) := hdc
  clear hd hdc
  go_enter Try.func49, Try.ntmps49
  go_wp2_with fail
  go_loopw [5] (fun i wr => ∃ q : Nat, q ≤ n ∧ i = .int .i64 q ∧ wr = w) (fun i _ => n - (intOf i).toNat)
  case atStart => exact ⟨0, Nat.zero_le _, rfl, rfl⟩
  case round =>
    obtain ⟨q, hq, rfl, hwr⟩ := hrel
    replace hwr := hwr.symm
    subst hwr
    by_cases hlt : q < n
    · obtain ⟨g, hg, _, _, hc⟩ := HDC.out (by omega)
      subst hg
      have d0 : w.cell? ⟨g, q * 7, none⟩ = some (.string ⟨#[]⟩) := hc (q * 7) _ (flatV_get _ q 0 _ (vmk_at hlt) (by decide))
      have d1 : w.cell? ⟨g, q * 7 + 1, none⟩ = some (.int .i64 (q : Int)) := hc (q * 7 + 1) _ (flatV_get _ q 1 _ (vmk_at hlt) (by decide))
      have d3 : w.cell? ⟨g, q * 7 + 3, none⟩ = some (.int .i64 mark) := hc (q * 7 + 3) _ (flatV_get _ q 3 _ (vmk_at hlt) (by decide))
      clear hc HDC
      go_wp2_with fail
      go_roundw
      case rel => exact ⟨q + 1, by omega, by go_num, by first | rfl | trivial⟩
      case measure => simp [intOf]; omega
    · clear HDC
      go_wp2_with fail
      go_ret
      exact ⟨rfl, rfl⟩
set_option maxRecDepth 100000 in
set_option maxHeartbeats 3200000 in
theorem righted_any {La n : Nat} {v : Value} (mark : Int) (w : World) (hd : w.ownsRow La 44 2 v n (flatR (rmk mark n))) (h1 : n ≤ 100000) :
    Calls Try.prog 50 #[v, .int .i64 mark] w fun e w' => e = .returned (.bool true) ∧ w' = w := by
  obtain ⟨da, dc, hdv, _, _, hdc⟩ := own_read hd
  subst hdv
  have HDC : Hid (0 < n → ∃ g, da = some ⟨g, 0, none⟩ ∧ La ≤ g ∧ g < w.heap.size ∧ ∀ j u, (flatR (rmk mark n))[j]? = some u → w.cell? ⟨g, j, none⟩ = some u) := hdc
  clear hd hdc
  go_enter Try.func50, Try.ntmps50
  go_wp2_with fail
  go_loopw [5] (fun i wr => ∃ q : Nat, q ≤ n ∧ i = .int .i64 q ∧ wr = w) (fun i _ => n - (intOf i).toNat)
  case atStart => exact ⟨0, Nat.zero_le _, rfl, rfl⟩
  case round =>
    obtain ⟨q, hq, rfl, hwr⟩ := hrel
    replace hwr := hwr.symm
    subst hwr
    by_cases hlt : q < n
    · obtain ⟨g, hg, _, _, hc⟩ := HDC.out (by omega)
      subst hg
      obtain ⟨e0, e1⟩ := flatR_get _ q _ (rmk_at (mark := mark) hlt)
      have d0 : w.cell? ⟨g, q * 2, none⟩ = some (.int .i64 mark) := hc _ _ e0
      have d1 : w.cell? ⟨g, q * 2 + 1, none⟩ = some (.int .i64 (q : Int)) := hc _ _ e1
      clear hc HDC e0 e1
      go_wp2_with fail
      go_roundw
      case rel => exact ⟨q + 1, by omega, by go_num, by first | rfl | trivial⟩
      case measure => simp [intOf]; omega
    · clear HDC
      go_wp2_with fail
      go_ret
      exact ⟨rfl, rfl⟩
set_option maxRecDepth 100000 in
set_option maxHeartbeats 3200000 in
theorem rights_yes (aa ab : Option Addr) (KK ca cb La Lb : Nat) (rs : List (Int × Int)) (w : World) (hl : rs.length = KK) (hK : KK ≤ 100000) (ha : w.ownsRow La 44 2 (.slice aa KK ca) KK (flatR rs)) (hb : w.ownsRow Lb 44 2 (.slice ab KK cb) KK (flatR rs)) :
    Calls Try.prog 48 #[.slice aa KK ca, .slice ab KK cb] w fun e w' => e = .returned (.bool true) ∧ Below w.heap.size w w' := by
  have HL : Hid (rs.length = KK) := hl
  have HA : Hid (World.ownsRow w La 44 2 (.slice aa KK ca) KK (flatR rs)) := ha
  have HBB : Hid (World.ownsRow w Lb 44 2 (.slice ab KK cb) KK (flatR rs)) := hb
  have HSR : Hid (∀ (a b : Int) W, Calls Try.prog 18 #[.agg #[.int .i64 a, .int .i64 b], .agg #[.int .i64 a, .int .i64 b]] W fun e w' => e = .returned (.bool true) ∧ Below W.heap.size W w') := fun a b W => by have := sameRights_any a b a b W; simpa using this
  clear hl ha hb
  go_enter Try.func48, Try.ntmps48
  go_wp2_with fail
  go_loopw [5] (fun i wr => ∃ (q : Nat), q ≤ KK ∧ i = .int .i64 q ∧ Below w.heap.size w wr) (fun i _ => KK - (intOf i).toNat)
  case atStart => exact ⟨0, Nat.zero_le _, rfl, Below.refl _ _⟩
  case round =>
    obtain ⟨q, hq, rfl, hbel⟩ := hrel
    have HB : Hid (Below w.heap.size w wr) := hbel
    by_cases hlt : q < KK
    · obtain ⟨ga, hga, r0', r1'⟩ := row_two HA.out (q := q) (by rw [HL.out]; exact hlt)
      obtain ⟨gb, hgb, s0', s1'⟩ := row_two HBB.out (q := q) (by rw [HL.out]; exact hlt)
      subst hga
      subst hgb
      have r0 := cell_below hbel r0'
      have r1 := cell_below hbel r1'
      have s0 := cell_below hbel s0'
      have s1 := cell_below hbel s1'
      generalize rs[q]'(by rw [HL.out]; exact hlt) = dq at *
      clear hbel r0' r1' s0' s1'
      go_wp2_with fail
      rename_i K hK
      try rw [show ∀ a : Act, a.put none undef = a from fun _ => rfl]
      refine wp_region_mix (fun wq => wq.cell? ⟨ga, q * 2, none⟩ = some (.int .i64 dq.1) ∧ wq.cell? ⟨ga, q * 2 + 1, none⟩ = some (.int .i64 dq.2) ∧ wq.cell? ⟨gb, q * 2, none⟩ = some (.int .i64 dq.1) ∧ wq.cell? ⟨gb, q * 2 + 1, none⟩ = some (.int .i64 dq.2)) (fun i => i == 8 || i == 99) 99 (by kernel_rfl) rfl (by kernel_rfl) (by kernel_rfl) (by kernel_rfl) ?_
      refine withFrP (N := 27) rfl ?_
      intro f0 F0 hff
      have ee0 : f0 0 = Value.slice (some ⟨ga, 0, none⟩) KK ca := hff 0
      have ee1 : f0 1 = Value.slice (some ⟨gb, 0, none⟩) KK cb := hff 1
      have ee5 : f0 5 = Value.int .i64 ((q : Nat) : Int) := hff 5
      clear hff
      have HCC : (fun wq => wq.cell? ⟨ga, q * 2, none⟩ = some (.int .i64 dq.1) ∧ wq.cell? ⟨ga, q * 2 + 1, none⟩ = some (.int .i64 dq.2) ∧ wq.cell? ⟨gb, q * 2, none⟩ = some (.int .i64 dq.1) ∧ wq.cell? ⟨gb, q * 2 + 1, none⟩ = some (.int .i64 dq.2)) (({ wr with drawn := wr.drawn + 1 } : World)) := ⟨r0, r1, s0, s1⟩
      refine lyp F0 rfl HCC rfl (by omega) (wanted_none rfl) (v := Value.slice (some ⟨ga, 0, none⟩) KK ca) (fun wr hwr => by simp only [execOp, (F0.eval 0 (by omega)).trans (show _ = Value.slice (some ⟨ga, 0, none⟩) KK ca from by simp [upd, ee0, ee1, ee5])]; first | rfl | simp [go_sem]) fun F1 => ?_
      refine lyp F1 rfl HCC rfl (by omega) (wanted_none rfl) (v := Value.int .i64 ((q : Nat) : Int)) (fun wr hwr => by simp only [execOp, (F1.eval 5 (by omega)).trans (show _ = Value.int .i64 ((q : Nat) : Int) from by simp [upd, ee0, ee1, ee5])]; first | rfl | simp [go_sem]) fun F2 => ?_
      refine lyp F2 rfl HCC rfl (by omega) (wanted_none rfl) (v := Value.pointer (some ⟨ga, q * 2, none⟩)) (fun wr hwr => by simp only [execOp, (F2.eval 17 (by omega)).trans (show _ = Value.slice (some ⟨ga, 0, none⟩) KK ca from by simp [upd, ee0, ee1, ee5]), (F2.eval 18 (by omega)).trans (show _ = Value.int .i64 ((q : Nat) : Int) from by simp [upd, ee0, ee1, ee5])]; simp only [Sem.run_bind, Sem.run_pure, Result.andThen_ok, idx_run 42 44 2 Try.underlying42 info44s wr ga 0 KK ca q hlt, Nat.zero_add]; try rfl) fun F3 => ?_
      refine lyp F3 rfl HCC rfl (by omega) (wanted_none rfl) (v := Value.agg #[.int .i64 dq.1, .int .i64 dq.2]) (fun wr hwr => by simp only [execOp, (F3.eval 19 (by omega)).trans (show _ = Value.pointer (some ⟨ga, q * 2, none⟩) from by simp [upd, ee0, ee1, ee5])]; simp [go_sem, hwr.1, hwr.2.1]) fun F4 => ?_
      refine lyp F4 rfl HCC rfl (by omega) (wanted_none rfl) (v := Value.slice (some ⟨gb, 0, none⟩) KK cb) (fun wr hwr => by simp only [execOp, (F4.eval 1 (by omega)).trans (show _ = Value.slice (some ⟨gb, 0, none⟩) KK cb from by simp [upd, ee0, ee1, ee5])]; first | rfl | simp [go_sem]) fun F5 => ?_
      refine lyp F5 rfl HCC rfl (by omega) (wanted_none rfl) (v := Value.int .i64 ((q : Nat) : Int)) (fun wr hwr => by simp only [execOp, (F5.eval 5 (by omega)).trans (show _ = Value.int .i64 ((q : Nat) : Int) from by simp [upd, ee0, ee1, ee5])]; first | rfl | simp [go_sem]) fun F6 => ?_
      refine lyp F6 rfl HCC rfl (by omega) (wanted_none rfl) (v := Value.pointer (some ⟨gb, q * 2, none⟩)) (fun wr hwr => by simp only [execOp, (F6.eval 21 (by omega)).trans (show _ = Value.slice (some ⟨gb, 0, none⟩) KK cb from by simp [upd, ee0, ee1, ee5]), (F6.eval 22 (by omega)).trans (show _ = Value.int .i64 ((q : Nat) : Int) from by simp [upd, ee0, ee1, ee5])]; simp only [Sem.run_bind, Sem.run_pure, Result.andThen_ok, idx_run 42 44 2 Try.underlying42 info44s wr gb 0 KK cb q hlt, Nat.zero_add]; try rfl) fun F7 => ?_
      refine lyp F7 rfl HCC rfl (by omega) (wanted_none rfl) (v := Value.agg #[.int .i64 dq.1, .int .i64 dq.2]) (fun wr hwr => by simp only [execOp, (F7.eval 23 (by omega)).trans (show _ = Value.pointer (some ⟨gb, q * 2, none⟩) from by simp [upd, ee0, ee1, ee5])]; simp [go_sem, hwr.2.2.1, hwr.2.2.2]) fun F8 => ?_
      refine lcp F8 rfl HCC rfl (by omega) (wanted_none rfl) (g := 18) (args := #[Value.agg #[.int .i64 dq.1, .int .i64 dq.2], Value.agg #[.int .i64 dq.1, .int .i64 dq.2]]) (by simp only [execOp, resolve, invoke, List.map_toArray, List.map_cons, List.map_nil, (F8.eval 20 (by omega)).trans (show _ = Value.agg #[.int .i64 dq.1, .int .i64 dq.2] from by simp [upd, ee0, ee1, ee5]), (F8.eval 24 (by omega)).trans (show _ = Value.agg #[.int .i64 dq.1, .int .i64 dq.2] from by simp [upd, ee0, ee1, ee5])]; simp [go_sem, Act.eval]) (HSR.out dq.1 dq.2 (({ wr with drawn := wr.drawn + 1 } : World))) ?_
      rintro e9 Y ⟨rfl, hbY⟩
      refine ⟨_, rfl, fun F9 => ?_⟩
      have HC2 : (fun wq => wq.cell? ⟨ga, q * 2, none⟩ = some (.int .i64 dq.1) ∧ wq.cell? ⟨ga, q * 2 + 1, none⟩ = some (.int .i64 dq.2) ∧ wq.cell? ⟨gb, q * 2, none⟩ = some (.int .i64 dq.1) ∧ wq.cell? ⟨gb, q * 2 + 1, none⟩ = some (.int .i64 dq.2)) Y := ⟨cell_below hbY HCC.1, cell_below hbY HCC.2.1, cell_below hbY HCC.2.2.1, cell_below hbY HCC.2.2.2⟩
      refine lyp F9 rfl HC2 rfl (by omega) (wanted_none rfl) (v := Value.bool false) (fun wr hwr => by simp only [execOp, (F9.eval 25 (by omega)).trans (show _ = Value.bool true from by simp [upd, ee0, ee1, ee5])]; simp [go_sem, Act.eval]) fun F10 => ?_
      refine ⟨fun _ => HC2, ?_⟩
      refine hK _ _ ?_
      clear F0 F1 F2 F3 F4 F5 F6 F7 F8 F9 F10 ee0 ee1 ee5 HCC HC2
      simp only [Act.put, List.setIfInBounds_toArray, List.set_cons_succ, List.set_cons_zero]
      have HB2 : Hid (Below w.heap.size w Y) := HB.out.trans ((show Below wr.heap.size wr Y from (Below.drew (Below.refl _ _)).trans hbY).mono HB.out.size)
      clear hbY r0 r1 s0 s1
      go_wp2_with fail
      go_roundw
      case rel => exact ⟨q + 1, by omega, by go_num, HB2.out⟩
      case measure => simp [intOf]; omega
    · clear hbel
      go_wp2_with fail
      go_ret
      exact ⟨rfl, HB.out⟩
end Go.Proofs.Ytifgmefdlmjocaa
namespace Go.Proofs.Ytifgmefdlmjocaa
open Go.RowKit Go.PlainAid Go.MapKept
set_option linter.unusedVariables false
set_option linter.unusedSimpArgs false
/-- Where rights stand among what was had, from the end on. -/
def placeTo (es : List Ent) (d u : Int) : Nat → Int
  | 0 => if d = 0 ∧ u = 0 then 0 else -1
  | i + 1 => match es[i]? with
    | some e => if e.d = d ∧ e.u = u then (i : Int) + 1 else placeTo es d u i
    | none => placeTo es d u i
set_option maxRecDepth 100000 in
set_option maxHeartbeats 3200000 in
theorem place_any (ao : Option Addr) (KK cap : Nat) (es : List Ent) (d u : Int) (w : World) (hl : es.length = KK) (hK : KK ≤ 100000) (hf : FromV w ao es) :
    Calls Try.prog 25 #[.slice ao KK cap, .agg #[.int .i64 d, .int .i64 u]] w fun e w' => e = .returned (.int .i64 (placeTo es d u KK)) ∧ Below w.heap.size w w' := by
  have HL : Hid (es.length = KK) := hl
  have HF : Hid (FromV w ao es) := hf
  obtain ⟨rx, hrx⟩ : ∃ rx, rx = w.heap.size := ⟨_, rfl⟩
  obtain ⟨X, hX⟩ : ∃ X, X = w.alloc (.cells #[.int .i64 d, .int .i64 u] 44) := ⟨_, rfl⟩
  have HBX : Hid (Below w.heap.size w X) := show Below w.heap.size w X from by rw [hX]; exact (Below.refl _ _).alloc (Nat.le_refl _) _
  have HRX : Hid (Blk X rx #[.int .i64 d, .int .i64 u] 44) := show Blk X rx #[.int .i64 d, .int .i64 u] 44 from by rw [hX, hrx]; exact heap_alloc_new w _
  have HSR : Hid (∀ (a b c e : Int) W, Calls Try.prog 18 #[.agg #[.int .i64 a, .int .i64 b], .agg #[.int .i64 c, .int .i64 e]] W fun r w' => r = .returned (.bool (a == c && b == e)) ∧ Below W.heap.size W w') := fun a b c e W => sameRights_any a b c e W
  clear hl hf
  go_enter Try.func25, Try.ntmps25
  go_upto_region 1 with fail
  rw [← hX, ← hrx]
  clear hX hrx
  go_wp2_with fail
  go_loopw [5] (fun i wr => ∃ q : Nat, q ≤ KK ∧ i = .int .i64 q ∧ placeTo es d u KK = placeTo es d u q ∧ Below X.heap.size X wr) (fun i _ => (intOf i).toNat)
  case atStart => exact ⟨KK, Nat.le_refl _, rfl, rfl, Below.refl _ _⟩
  case round =>
    obtain ⟨q, hq, rfl, hpl, hbel⟩ := hrel
    have HPL : Hid (placeTo es d u KK = placeTo es d u q) := hpl
    have HB : Hid (Below X.heap.size X wr) := hbel
    have HBW : Hid (Below w.heap.size w wr) := HBX.out.trans (hbel.mono HBX.out.size)
    have hR : Blk wr rx #[.int .i64 d, .int .i64 u] 44 := HRX.out.below hbel HRX.out.lt
    have s0 : wr.cell? ⟨rx, 0, none⟩ = some (.int .i64 d) := hR.cell 0
    have s1 : wr.cell? ⟨rx, 1, none⟩ = some (.int .i64 u) := hR.cell 1
    clear hpl hbel hR
    by_cases h0 : 0 < q
    · obtain ⟨p, rfl⟩ : ∃ p, q = p + 1 := ⟨q - 1, by omega⟩
      obtain ⟨e, he⟩ : ∃ e, es[p]? = some e := ⟨es[p]'(by rw [HL.out]; omega), List.getElem?_eq_getElem _⟩
      obtain ⟨b, off, hao, hc⟩ := HF.out (by rw [HL.out]; omega)
      subst hao
      have HVA : Hid (VAt wr b (off + p * 7) e) := (hc p e he).keep (HBW.out.block b (hc p e he).lt)
      have HST : Hid (placeTo es d u (p + 1) = if e.d = d ∧ e.u = u then (p : Int) + 1 else placeTo es d u p) := show _ = _ from by simp only [placeTo, he]
      have hpk : p < KK := by omega
      have hw : IntKind.i64.wrap (((p + 1 : Nat) : Int) - 1) = (p : Int) := by rw [IntKind.wrap_i64]; omega
      clear hc he
      go_wp2_with fail
      rename_i K hK
      try rw [show ∀ a : Act, a.put none undef = a from fun _ => rfl]
      refine wp_region_mix (fun wq => VAt wq b (off + p * 7) e ∧ wq.cell? ⟨rx, 0, none⟩ = some (.int .i64 d) ∧ wq.cell? ⟨rx, 1, none⟩ = some (.int .i64 u)) (fun i => i == 7 || i == 99) 99 (by kernel_rfl) rfl (by kernel_rfl) (by kernel_rfl) (by kernel_rfl) ?_
      refine withFrP (N := 24) rfl ?_
      intro f0 F0 hff
      have ee0 : f0 0 = Value.slice (some ⟨b, off, none⟩) KK cap := hff 0
      have ee3 : f0 3 = Value.pointer (some ⟨rx, 0, none⟩) := hff 3
      have ee5 : f0 5 = Value.int .i64 ((p + 1 : Nat) : Int) := hff 5
      clear hff
      have HCC : (fun wq => VAt wq b (off + p * 7) e ∧ wq.cell? ⟨rx, 0, none⟩ = some (.int .i64 d) ∧ wq.cell? ⟨rx, 1, none⟩ = some (.int .i64 u)) (({ wr with drawn := wr.drawn + 1 } : World)) := ⟨HVA.out.keep rfl, s0, s1⟩
      refine lyp F0 rfl HCC rfl (by omega) (wanted_none rfl) (v := Value.slice (some ⟨b, off, none⟩) KK cap) (fun wr hwr => by simp only [execOp, (F0.eval 0 (by omega)).trans (show _ = Value.slice (some ⟨b, off, none⟩) KK cap from by simp [upd, ee0, ee3, ee5])]; first | rfl | simp [go_sem]) fun F1 => ?_
      refine lyp F1 rfl HCC rfl (by omega) (wanted_none rfl) (v := Value.int .i64 ((p + 1 : Nat) : Int)) (fun wr hwr => by simp only [execOp, (F1.eval 5 (by omega)).trans (show _ = Value.int .i64 ((p + 1 : Nat) : Int) from by simp [upd, ee0, ee3, ee5])]; first | rfl | simp [go_sem]) fun F2 => ?_
      refine lyp F2 rfl HCC rfl (by omega) (wanted_none rfl) (v := Value.int .i64 (p : Int)) (fun wr hwr => by simp only [execOp, (F2.eval 13 (by omega)).trans (show _ = Value.int .i64 ((p + 1 : Nat) : Int) from by simp [upd, ee0, ee3, ee5])]; simp [go_sem, Act.eval, show IntKind.i64.wrap (p : Int) = (p : Int) from by rw [IntKind.wrap_i64]; omega]) fun F3 => ?_
      refine lyp F3 rfl HCC rfl (by omega) (wanted_none rfl) (v := Value.pointer (some ⟨b, off + p * 7, none⟩)) (fun wr hwr => by simp only [execOp, (F3.eval 12 (by omega)).trans (show _ = Value.slice (some ⟨b, off, none⟩) KK cap from by simp [upd, ee0, ee3, ee5]), (F3.eval 14 (by omega)).trans (show _ = Value.int .i64 (p : Int) from by simp [upd, ee0, ee3, ee5])]; simp only [Sem.run_bind, Sem.run_pure, Result.andThen_ok, idx_run 31 46 7 Try.underlying31 info46 wr b off KK cap p hpk]; try rfl) fun F4 => ?_
      refine lyp F4 rfl HCC rfl (by omega) (wanted_none rfl) (v := Value.pointer (some ⟨b, off + p * 7 + 4, none⟩)) (fun wr hwr => by simp only [execOp, (F4.eval 15 (by omega)).trans (show _ = Value.pointer (some ⟨b, off + p * 7, none⟩) from by simp [upd, ee0, ee3, ee5])]; simp [go_sem]) fun F5 => ?_
      refine lyp F5 rfl HCC rfl (by omega) (wanted_none rfl) (v := Value.agg #[.int .i64 e.d, .int .i64 e.u]) (fun wr hwr => by simp only [execOp, (F5.eval 16 (by omega)).trans (show _ = Value.pointer (some ⟨b, off + p * 7 + 4, none⟩) from by simp [upd, ee0, ee3, ee5])]; simp [go_sem, hwr.1.c4, hwr.1.c5]) fun F6 => ?_
      refine lyp F6 rfl HCC rfl (by omega) (wanted_none rfl) (v := Value.agg #[.int .i64 d, .int .i64 u]) (fun wr hwr => by simp only [execOp, (F6.eval 3 (by omega)).trans (show _ = Value.pointer (some ⟨rx, 0, none⟩) from by simp [upd, ee0, ee3, ee5])]; simp [go_sem, hwr.2.1, hwr.2.2]) fun F7 => ?_
      refine lcp F7 rfl HCC rfl (by omega) (wanted_none rfl) (g := 18) (args := #[Value.agg #[.int .i64 e.d, .int .i64 e.u], Value.agg #[.int .i64 d, .int .i64 u]]) (by simp only [execOp, resolve, invoke, List.map_toArray, List.map_cons, List.map_nil, (F7.eval 17 (by omega)).trans (show _ = Value.agg #[.int .i64 e.d, .int .i64 e.u] from by simp [upd, ee0, ee3, ee5]), (F7.eval 18 (by omega)).trans (show _ = Value.agg #[.int .i64 d, .int .i64 u] from by simp [upd, ee0, ee3, ee5])]; simp [go_sem, Act.eval]) (HSR.out e.d e.u d u (({ wr with drawn := wr.drawn + 1 } : World))) ?_
      rintro e9 Y ⟨rfl, hbY⟩
      refine ⟨_, rfl, fun F8 => ?_⟩
      have HC2 : (fun wq => VAt wq b (off + p * 7) e ∧ wq.cell? ⟨rx, 0, none⟩ = some (.int .i64 d) ∧ wq.cell? ⟨rx, 1, none⟩ = some (.int .i64 u)) Y := ⟨HCC.1.keep (hbY.block _ HCC.1.lt), cell_below hbY HCC.2.1, cell_below hbY HCC.2.2⟩
      refine ⟨fun _ => HC2, ?_⟩
      refine hK _ _ ?_
      clear F0 F1 F2 F3 F4 F5 F6 F7 F8 ee0 ee3 ee5 HCC HC2
      simp only [Act.put, List.setIfInBounds_toArray, List.set_cons_succ, List.set_cons_zero]
      have HB2 : Hid (Below X.heap.size X Y) := HB.out.trans ((show Below wr.heap.size wr Y from (Below.drew (Below.refl _ _)).trans hbY).mono HB.out.size)
      clear hbY HVA s0 s1
      by_cases k1 : e.d = d
      · by_cases k2 : e.u = u
        · rw [show (e.d == d && e.u == u) = true from by simp [k1, k2]]
          have HRS : Hid (placeTo es d u KK = ((p + 1 : Nat) : Int)) := show _ = _ from by rw [HPL.out, HST.out, if_pos ⟨k1, k2⟩]; omega
          clear k1 k2
          go_wp2_with fail
          go_ret
          exact ⟨by rw [HRS.out]; rfl, HBX.out.trans (HB2.out.mono HBX.out.size)⟩
        · rw [show (e.d == d && e.u == u) = false from by simp [k2]]
          have HRS : Hid (placeTo es d u KK = placeTo es d u p) := show _ = _ from by rw [HPL.out, HST.out, if_neg (fun h => k2 h.2)]
          clear k1 k2
          go_wp2_with fail
          go_roundw
          case rel => exact ⟨p, by omega, by go_num, HRS.out, HB2.out⟩
          case measure => simp [intOf]
      · rw [show (e.d == d && e.u == u) = false from by simp [k1]]
        have HRS : Hid (placeTo es d u KK = placeTo es d u p) := show _ = _ from by rw [HPL.out, HST.out, if_neg (fun h => k1 h.1)]
        clear k1
        go_wp2_with fail
        go_roundw
        case rel => exact ⟨p, by omega, by go_num, HRS.out, HB2.out⟩
        case measure => simp [intOf]
    · obtain rfl : q = 0 := by omega
      have HC0 : Hid (placeTo es d u KK = if d = 0 ∧ u = 0 then 0 else -1) := HPL.out
      go_wp2_with fail
      refine Calls.mono (HSR.out d u 0 0 wr) ?_
      rintro e9 w9 ⟨rfl, hb9⟩
      have HB9 : Hid (Below w.heap.size w w9) := HBW.out.trans (hb9.mono HBW.out.size)
      clear hb9 s0 s1
      by_cases k1 : d = 0
      · by_cases k2 : u = 0
        · rw [show (d == 0 && u == 0) = true from by simp [k1, k2]]
          have HRS : Hid (placeTo es d u KK = 0) := show _ = _ from by rw [HC0.out, if_pos ⟨k1, k2⟩]
          clear k1 k2
          go_wp2_with fail
          go_ret
          exact ⟨by rw [HRS.out]; rfl, HB9.out⟩
        · rw [show (d == 0 && u == 0) = false from by simp [k2]]
          have HRS : Hid (placeTo es d u KK = -1) := show _ = _ from by rw [HC0.out, if_neg (fun h => k2 h.2)]
          clear k1 k2
          go_wp2_with fail
          go_ret
          exact ⟨by rw [HRS.out]; rfl, HB9.out⟩
      · rw [show (d == 0 && u == 0) = false from by simp [k1]]
        have HRS : Hid (placeTo es d u KK = -1) := show _ = _ from by rw [HC0.out, if_neg (fun h => k1 h.1)]
        clear k1
        go_wp2_with fail
        go_ret
        exact ⟨by rw [HRS.out]; rfl, HB9.out⟩
end Go.Proofs.Ytifgmefdlmjocaa
