import Derived.Test.YtaiknlnjahjeiaaNm0
import Derived.Deep.Cut
import Derived.BigQuiet
namespace Go.Proofs.Ytaiknlnjahjeiaa
open Go.RowKit Go.PlainAid Go.MapKept
set_option linter.unusedVariables false
set_option linter.unusedSimpArgs false
def qm : List UInt8 := [63]
def amp : List UInt8 := [38]
theorem mix_at (ks : List (List UInt8)) (z x : List UInt8) (q : Nat) (h : ks[q]? = some x) : (List.replicate q z ++ ks.drop q)[q]? = some x := by
  rw [List.getElem?_append_right (by simp)]
  simpa using h
theorem nm_own {L0 : Nat} {w : World} {v : Value} {n : Nat} {ks : List (List UInt8)} {es : List (Ent L0)} (h : Held es w) (he : nmE L0 v ks ∈ es) (hn : n = ks.length) : w.ownsRow L0 9 1 v n (flatS ks) := by
  have h1 : w.ownsRow L0 9 1 v ks.length (flatS ks) := h.all _ he
  subst hn
  exact h1
/-- The last answer is kept. -/
theorem names_end {L0 kb K n0 lc mc uc : Nat} {lo mo uo : Option Addr} {p : PR} {S : List RC} {bv1 : Value} {ts1 : List TD} {R : List (Ent L0)} {w wr Y : World} (hL : L0 ≤ w.heap.size) (hk : p.Ok K S) (hn : n0 = (keysR p.M).length) (ht : TOk (K + 1) ts1) (hb : Below L0 w wr)
    (hE : Held (nmE L0 (.slice lo n0 lc) (List.replicate n0 pct) :: nmE L0 (.slice mo n0 mc) (keysR p.M) :: nmE L0 (.slice uo n0 uc) (keysR p.M) :: stE L0 kb p S bv1 ts1 R) wr) (hY : Y = wr.setCell ⟨p.pb, 2, none⟩ (.slice lo n0 lc)) : PdPost L0 kb K p S R w (.returned (.bool true)) Y := by
  have hpb := st_box hE.drop.drop.drop
  have hc : Chg (fun k => k = p.pb) wr Y := by rw [hY]; exact setCell_chg _ _ _ _
  have hA : Held (nmE L0 (.slice lo n0 lc) (List.replicate n0 pct) :: stE L0 kb p S bv1 ts1 R) wr := by
    have h2 := hE.perm ((List.Perm.swap _ _ _).trans (List.Perm.cons _ (List.Perm.swap _ _ _)))
    exact h2.drop.drop
  have hA' : Held ([nmE L0 (.slice lo n0 lc) (List.replicate n0 pct)] ++ boxE L0 p.pb (p.cs kb) 76 :: (amE L0 p.ab p.mb p.L :: rmE L0 p.rb p.v p.M :: lsE L0 p :: roE L0 S :: boxE L0 kb #[bv1] 87 :: rowE L0 100 3 bv1 ts1.length (flatT ts1) :: (ts1.flatMap (TD.ents L0) ++ R))) wr := hA
  have hB := hA'.at (e' := boxE L0 p.pb (PR.cs { p with lv := .slice lo n0 lc, ln := n0 } kb) 76) hc ⟨by rw [hY]; exact hpb.1.set 2 _, hpb.2⟩ (fun k hk => Or.inl hk)
  have hC : Held ([nmE L0 (.slice lo n0 lc) (List.replicate n0 pct), boxE L0 p.pb (PR.cs { p with lv := .slice lo n0 lc, ln := n0 } kb) 76, amE L0 p.ab p.mb p.L, rmE L0 p.rb p.v p.M] ++ lsE L0 p :: (roE L0 S :: boxE L0 kb #[bv1] 87 :: rowE L0 100 3 bv1 ts1.length (flatT ts1) :: (ts1.flatMap (TD.ents L0) ++ R))) Y := hB
  have hD := (hC.perm List.perm_middle).drop
  have hE2 : Held (nmE L0 (.slice lo n0 lc) (List.replicate n0 pct) :: ([boxE L0 p.pb (PR.cs { p with lv := .slice lo n0 lc, ln := n0 } kb) 76, amE L0 p.ab p.mb p.L, rmE L0 p.rb p.v p.M] ++ (roE L0 S :: boxE L0 kb #[bv1] 87 :: rowE L0 100 3 bv1 ts1.length (flatT ts1) :: (ts1.flatMap (TD.ents L0) ++ R)))) Y := hD
  have hF := hE2.perm List.perm_middle.symm
  have hn2 : n0 ≤ K := by rw [hn, keys_len]; exact hk.ag.ln
  exact ⟨{ p with lv := .slice lo n0 lc, ln := n0 }, S, bv1, ts1, rfl, hF, ⟨hk.ag.mono (Nat.le_succ _), hk.sub, Nat.le_succ_of_le hn2, Nat.le_succ_of_le hk.ll⟩, rfl, fun c hc => hc, ht, hb.trans (hc.below (Nat.le_trans hL hb.size) (fun k e => by rw [e]; exact hpb.2))⟩
set_option maxRecDepth 100000 in
set_option maxHeartbeats 12800000 in
theorem names_p {L0 kb K : Nat} {p : PR} {S : List RC} {bv : Value} {ts : List TD} {R : List (Ent L0)} (w : World) (h : Held (stE L0 kb p S bv ts R) w) (hL : L0 ≤ w.heap.size) (hk : p.Ok K S) (ht : TOk K ts) (hK : K ≤ 90000) :
    Calls Try.prog 28 #[.pointer (some ⟨p.pb, 0, none⟩)] w (PdPost L0 kb K p S R w) := by
  obtain ⟨bo, bc, hbv, _⟩ := own_slice (st_kr h)
  obtain ⟨bn, hbn⟩ : ∃ y, y = ts.length := ⟨_, rfl⟩
  rw [← hbn] at hbv
  subst hbv
  have HW : Hid (Held (stE L0 kb p S (.slice bo bn bc) ts R) w) := h
  have HOK : Hid (p.Ok K S) := hk
  have HT : Hid (TOk K ts) := ht
  obtain ⟨n0, hn0⟩ : ∃ y, y = (keysR p.M).length := ⟨_, rfl⟩
  have HN0 : Hid (n0 = (keysR p.M).length) := hn0
  have hnK : n0 ≤ 90000 := by rw [hn0, keys_len]; exact Nat.le_trans hk.ag.ln hK
  clear h hk ht hbn hn0
  go_enter Try.func28, Try.ntmps28
  go_wp2_with fail
  first | rename_i KK hKK | skip
  try rw [show ∀ a : Act, a.put none undef = a from fun _ => rfl]
  refine wp_region_mix (fun wq => Blk wq p.pb (p.cs kb) 76 ∧ Blk wq kb #[.slice bo bn bc] 87) (fun i => i == 15 || i == 20 || i == 22 || i == 23 || i == 26) 26 (by kernel_rfl) rfl (by kernel_rfl) (by kernel_rfl) (by kernel_rfl) ?_
  refine withFrP (N := 155) rfl ?_
  intro f0 F0 hff
  have ee0 : f0 0 = Value.pointer (some ⟨p.pb, 0, none⟩) := hff 0
  clear hff
  have HCC : (fun wq => Blk wq p.pb (p.cs kb) 76 ∧ Blk wq kb #[.slice bo bn bc] 87) (({ w with drawn := w.drawn + 1 } : World)) := ⟨(st_box HW.out).1, (st_kb HW.out).1⟩
  refine lyp F0 rfl HCC rfl (by omega) (wanted_none rfl) (v := Value.pointer (some ⟨p.pb, 0, none⟩)) (fun wr hwr => by simp only [execOp, (F0.eval 0 (by omega)).trans (show _ = Value.pointer (some ⟨p.pb, 0, none⟩) from by simp [upd, ee0])]; first | rfl | simp [go_sem]) fun F1 => ?_
  refine lyp F1 rfl HCC rfl (by omega) (wanted_none rfl) (v := Value.pointer (some ⟨p.pb, 0, none⟩)) (fun wr hwr => by simp only [execOp, (F1.eval 13 (by omega)).trans (show _ = Value.pointer (some ⟨p.pb, 0, none⟩) from by simp [upd, ee0])]; simp [go_sem]) fun F2 => ?_
  refine lyp F2 rfl HCC rfl (by omega) (wanted_none rfl) (v := Value.pointer (some ⟨p.pb, 3, none⟩)) (fun wr hwr => by simp only [execOp, (F2.eval 14 (by omega)).trans (show _ = Value.pointer (some ⟨p.pb, 0, none⟩) from by simp [upd, ee0])]; simp [go_sem]) fun F3 => ?_
  refine lyp F3 rfl HCC rfl (by omega) (wanted_none rfl) (v := Value.pointer (some ⟨kb, 0, none⟩)) (fun wr hwr => by simp only [execOp, (F3.eval 15 (by omega)).trans (show _ = Value.pointer (some ⟨p.pb, 3, none⟩) from by simp [upd, ee0])]; simp [go_sem, show wr.cell? ⟨p.pb, 3, none⟩ = some (.pointer (some ⟨kb, 0, none⟩)) from hwr.1.cell 3]) fun F4 => ?_
  refine lyp F4 rfl HCC rfl (by omega) (wanted_none rfl) (v := Value.pointer (some ⟨p.pb, 0, none⟩)) (fun wr hwr => by simp only [execOp, (F4.eval 0 (by omega)).trans (show _ = Value.pointer (some ⟨p.pb, 0, none⟩) from by simp [upd, ee0])]; first | rfl | simp [go_sem]) fun F5 => ?_
  refine lyp F5 rfl HCC rfl (by omega) (wanted_none rfl) (v := Value.pointer (some ⟨p.pb, 0, none⟩)) (fun wr hwr => by simp only [execOp, (F5.eval 17 (by omega)).trans (show _ = Value.pointer (some ⟨p.pb, 0, none⟩) from by simp [upd, ee0])]; simp [go_sem]) fun F6 => ?_
  refine lyp F6 rfl HCC rfl (by omega) (wanted_none rfl) (v := Value.pointer (some ⟨p.pb, 3, none⟩)) (fun wr hwr => by simp only [execOp, (F6.eval 18 (by omega)).trans (show _ = Value.pointer (some ⟨p.pb, 0, none⟩) from by simp [upd, ee0])]; simp [go_sem]) fun F7 => ?_
  refine lyp F7 rfl HCC rfl (by omega) (wanted_none rfl) (v := Value.pointer (some ⟨kb, 0, none⟩)) (fun wr hwr => by simp only [execOp, (F7.eval 19 (by omega)).trans (show _ = Value.pointer (some ⟨p.pb, 3, none⟩) from by simp [upd, ee0])]; simp [go_sem, show wr.cell? ⟨p.pb, 3, none⟩ = some (.pointer (some ⟨kb, 0, none⟩)) from hwr.1.cell 3]) fun F8 => ?_
  refine lyp F8 rfl HCC rfl (by omega) (wanted_none rfl) (v := Value.pointer (some ⟨kb, 0, none⟩)) (fun wr hwr => by simp only [execOp, (F8.eval 20 (by omega)).trans (show _ = Value.pointer (some ⟨kb, 0, none⟩) from by simp [upd, ee0])]; simp [go_sem]) fun F9 => ?_
  refine lyp F9 rfl HCC rfl (by omega) (wanted_none rfl) (v := Value.pointer (some ⟨kb, 0, none⟩)) (fun wr hwr => by simp only [execOp, (F9.eval 21 (by omega)).trans (show _ = Value.pointer (some ⟨kb, 0, none⟩) from by simp [upd, ee0])]; simp [go_sem]) fun F10 => ?_
  refine lyp F10 rfl HCC rfl (by omega) (wanted_none rfl) (v := Value.slice bo bn bc) (fun wr hwr => by simp only [execOp, (F10.eval 22 (by omega)).trans (show _ = Value.pointer (some ⟨kb, 0, none⟩) from by simp [upd, ee0])]; simp [go_sem, show wr.cell? ⟨kb, 0, none⟩ = some (.slice bo bn bc) from hwr.2.cell 0]) fun F11 => ?_
  refine lyp F11 rfl HCC rfl (by omega) (wanted_none rfl) (v := Value.pointer (some ⟨p.pb, 0, none⟩)) (fun wr hwr => by simp only [execOp, (F11.eval 0 (by omega)).trans (show _ = Value.pointer (some ⟨p.pb, 0, none⟩) from by simp [upd, ee0])]; first | rfl | simp [go_sem]) fun F12 => ?_
  refine lyp F12 rfl HCC rfl (by omega) (wanted_none rfl) (v := Value.pointer (some ⟨p.pb, 0, none⟩)) (fun wr hwr => by simp only [execOp, (F12.eval 24 (by omega)).trans (show _ = Value.pointer (some ⟨p.pb, 0, none⟩) from by simp [upd, ee0])]; simp [go_sem]) fun F13 => ?_
  refine lyp F13 rfl HCC rfl (by omega) (wanted_none rfl) (v := Value.pointer (some ⟨p.pb, 0, none⟩)) (fun wr hwr => by simp only [execOp, (F13.eval 25 (by omega)).trans (show _ = Value.pointer (some ⟨p.pb, 0, none⟩) from by simp [upd, ee0])]; simp [go_sem]) fun F14 => ?_
  refine lyp F14 rfl HCC rfl (by omega) (wanted_none rfl) (v := Value.pointer (some ⟨p.ab, 0, none⟩)) (fun wr hwr => by simp only [execOp, (F14.eval 26 (by omega)).trans (show _ = Value.pointer (some ⟨p.pb, 0, none⟩) from by simp [upd, ee0])]; simp [go_sem, show wr.cell? ⟨p.pb, 0, none⟩ = some (.pointer (some ⟨p.ab, 0, none⟩)) from hwr.1.cell 0]) fun F15 => ?_
  refine lcp F15 rfl HCC rfl (by omega) (wanted_none rfl) (g := 39) (args := #[Value.pointer (some ⟨p.ab, 0, none⟩)]) (by simp only [execOp, resolve, invoke, List.map_toArray, List.map_cons, List.map_nil, (F15.eval 27 (by omega)).trans (show _ = Value.pointer (some ⟨p.ab, 0, none⟩) from by simp [upd, ee0])]; simp [go_sem, Act.eval]) (nA (({ w with drawn := w.drawn + 1 } : World)) (show AM p.ab p.mb p.L (({ w with drawn := w.drawn + 1 } : World)) from (st_am HW.out).1.more (Below.drew (Below.refl _ _))) HOK.out.ag HOK.out.ll hK HN0.out) ?_
  rintro e9 w1 ⟨lA, lB, rfl, hl1, hb1⟩
  have HB1 : Hid (Below w.heap.size w w1) := (Below.drew (Below.refl w.heap.size w)).trans hb1
  have HC1 : (fun wq => Blk wq p.pb (p.cs kb) 76 ∧ Blk wq kb #[.slice bo bn bc] 87) w1 := ⟨(st_box (HW.out.more HB1.out)).1, (st_kb (HW.out.more HB1.out)).1⟩
  refine ⟨_, rfl, fun F16 => ?_⟩
  have H1 : Hid (Held (nmE L0 (.slice lA n0 lB) (keysR p.M) :: stE L0 kb p S (.slice bo bn bc) ts R) w1) := Held.fresh HW.out HB1.out (nm_P HN0.out (ownsRow_mono hl1 hL)) (fun k hk => (ownsRow_lt hl1 hk).1)
  refine lyp F16 rfl HC1 rfl (by omega) (wanted_none rfl) (v := Value.pointer (some ⟨p.pb, 0, none⟩)) (fun wr hwr => by simp only [execOp, (F16.eval 0 (by omega)).trans (show _ = Value.pointer (some ⟨p.pb, 0, none⟩) from by simp [upd, ee0])]; first | rfl | simp [go_sem]) fun F17 => ?_
  refine lyp F17 rfl HC1 rfl (by omega) (wanted_none rfl) (v := Value.pointer (some ⟨p.pb, 0, none⟩)) (fun wr hwr => by simp only [execOp, (F17.eval 29 (by omega)).trans (show _ = Value.pointer (some ⟨p.pb, 0, none⟩) from by simp [upd, ee0])]; simp [go_sem]) fun F18 => ?_
  refine lyp F18 rfl HC1 rfl (by omega) (wanted_none rfl) (v := Value.pointer (some ⟨p.pb, 1, none⟩)) (fun wr hwr => by simp only [execOp, (F18.eval 30 (by omega)).trans (show _ = Value.pointer (some ⟨p.pb, 0, none⟩) from by simp [upd, ee0])]; simp [go_sem]) fun F19 => ?_
  refine lyp F19 rfl HC1 rfl (by omega) (wanted_none rfl) (v := Value.pointer (some ⟨p.rb, 0, none⟩)) (fun wr hwr => by simp only [execOp, (F19.eval 31 (by omega)).trans (show _ = Value.pointer (some ⟨p.pb, 1, none⟩) from by simp [upd, ee0])]; simp [go_sem, show wr.cell? ⟨p.pb, 1, none⟩ = some (.pointer (some ⟨p.rb, 0, none⟩)) from hwr.1.cell 1]) fun F20 => ?_
  refine lcp F20 rfl HC1 rfl (by omega) (wanted_none rfl) (g := 40) (args := #[Value.pointer (some ⟨p.rb, 0, none⟩)]) (by simp only [execOp, resolve, invoke, List.map_toArray, List.map_cons, List.map_nil, (F20.eval 32 (by omega)).trans (show _ = Value.pointer (some ⟨p.rb, 0, none⟩) from by simp [upd, ee0])]; simp [go_sem, Act.eval]) (nR w1 ((st_rm HW.out).1.more HB1.out) HOK.out.ag.ln hK HN0.out) ?_
  rintro e9 w2 ⟨uA, uB, rfl, hu2, hb2⟩
  have H2 : Hid (Held (nmE L0 (.slice uA n0 uB) (keysR p.M) :: nmE L0 (.slice lA n0 lB) (keysR p.M) :: stE L0 kb p S (.slice bo bn bc) ts R) w2) := Held.fresh H1.out hb2 (nm_P HN0.out (ownsRow_mono hu2 (Nat.le_trans hL HB1.out.size))) (fun k hk => (ownsRow_lt hu2 hk).1)
  have HB2 : Hid (Below w.heap.size w w2) := HB1.out.trans (hb2.mono HB1.out.size)
  have HC2 : (fun wq => Blk wq p.pb (p.cs kb) 76 ∧ Blk wq kb #[.slice bo bn bc] 87) w2 := ⟨(st_box (HW.out.more HB2.out)).1, (st_kb (HW.out.more HB2.out)).1⟩
  obtain ⟨b5, c5, w5, hrun, hkb5, hpb5, hb5, hHZ, hbZ⟩ := st_book HN0.out H2.out (Nat.le_trans hL HB2.out.size) (Nat.le_trans HT.out.ln hK)
  have HC5 : (fun wq => Blk wq p.pb (p.cs kb) 76 ∧ Blk wq kb #[.slice bo bn bc] 87) w5 := ⟨hpb5, hkb5⟩
  have HC3 : (fun wq => Blk wq p.pb (p.cs kb) 76 ∧ Blk wq kb #[.slice bo bn bc] 87) (w2.alloc (.cells #[.slice lA n0 lB, .slice uA n0 uB, .slice none 0 0] 100)) := ⟨HC2.1.below ((Below.refl _ _).alloc (Nat.le_refl _) _) HC2.1.lt, HC2.2.below ((Below.refl _ _).alloc (Nat.le_refl _) _) HC2.2.lt⟩
  refine ⟨_, rfl, fun F21 => ?_⟩
  refine lyp F21 rfl HC2 rfl (by omega) (wanted_none rfl) (v := Value.agg #[.slice lA n0 lB, .slice uA n0 uB, .slice none 0 0]) (fun wr hwr => by simp only [execOp, List.map_toArray, List.map_cons, List.map_nil, (F21.eval 28 (by omega)).trans (show _ = Value.slice lA n0 lB from by simp [upd, ee0]), (F21.eval 33 (by omega)).trans (show _ = Value.slice uA n0 uB from by simp [upd, ee0])]; simp [go_sem]; try rfl) fun F22 => ?_
  refine lep F22 rfl HC2 rfl (by omega) (wanted_none rfl) (v := Value.slice (some ⟨w2.heap.size, 0, none⟩) 1 1) (w1 := w2.alloc (.cells #[.slice lA n0 lB, .slice uA n0 uB, .slice none 0 0] 100)) (by simp only [execOp, List.map_toArray, List.map_cons, List.map_nil, (F22.eval 34 (by omega)).trans (show _ = Value.agg #[.slice lA n0 lB, .slice uA n0 uB, .slice none 0 0] from by simp [upd, ee0])]; simp [go_sem]) fun F23 => ?_
  refine lep F23 rfl HC3 rfl (by omega) (wanted_none rfl) (v := Value.slice b5 (ts.length + 1) c5) (w1 := w5) (by simp only [execOp, resolve, invoke, builtin, List.map_toArray, List.map_cons, List.map_nil, (F23.eval 23 (by omega)).trans (show _ = Value.slice bo bn bc from by simp [upd, ee0]), (F23.eval 35 (by omega)).trans (show _ = Value.slice (some ⟨w2.heap.size, 0, none⟩) 1 1 from by simp [upd, ee0])]; simp only [Sem.run_bind, Sem.run_pure, Result.andThen_ok, show _ = _ from hrun _]; try rfl) fun F24 => ?_
  refine lyp F24 rfl HC5 rfl (by omega) (wanted_none rfl) (v := Value.pointer (some ⟨kb, 0, none⟩)) (fun wr hwr => by simp only [execOp, (F24.eval 16 (by omega)).trans (show _ = Value.pointer (some ⟨kb, 0, none⟩) from by simp [upd, ee0])]; simp [go_sem]) fun F25 => ?_
  refine lyp F25 rfl HC5 rfl (by omega) (wanted_none rfl) (v := Value.pointer (some ⟨kb, 0, none⟩)) (fun wr hwr => by simp only [execOp, (F25.eval 37 (by omega)).trans (show _ = Value.pointer (some ⟨kb, 0, none⟩) from by simp [upd, ee0])]; simp [go_sem]) fun F26 => ?_
  refine lst rfl HC5 rfl (wanted_none rfl) (w1 := w5.setCell ⟨kb, 0, none⟩ (.slice b5 (ts.length + 1) c5)) (by simp only [execOp, (F26.eval 38 (by omega)).trans (show _ = Value.pointer (some ⟨kb, 0, none⟩) from by simp [upd, ee0]), (F26.eval 36 (by omega)).trans (show _ = Value.slice b5 (ts.length + 1) c5 from by simp [upd, ee0])]; simp [go_sem, show w5.cell? ⟨kb, 0, none⟩ = some (.slice bo bn bc) from HC5.2.cell 0, show w5.frozen? ⟨kb, 0, none⟩ = false from HC5.2.frozen 0]) ?_
  obtain ⟨bv1, hbv1⟩ : ∃ y, y = Value.slice b5 (ts.length + 1) c5 := ⟨_, rfl⟩
  obtain ⟨Z, hZ⟩ : ∃ y, y = w5.setCell ⟨kb, 0, none⟩ (.slice b5 (ts.length + 1) c5) := ⟨_, rfl⟩
  obtain ⟨ts1, hts1⟩ : ∃ y, y = ts ++ [(⟨.slice lA n0 lB, .slice uA n0 uB, keysR p.M⟩ : TD)] := ⟨_, rfl⟩
  have HZ : Hid (Held (stE L0 kb p S bv1 ts1 R) Z) := show Held (stE L0 kb p S bv1 ts1 R) Z from by rw [hbv1, hZ, hts1]; exact hHZ
  have HBZ : Hid (Below L0 w Z) := show Below L0 w Z from by rw [hZ]; exact ((HB2.out.mono hL).trans (show Below L0 w2 w5 from ⟨hb5.os, hb5.tape, hb5.output, hb5.size, hb5.block⟩)).trans ⟨hbZ.os, hbZ.tape, hbZ.output, hbZ.size, hbZ.block⟩
  have HT1 : Hid (TOk (K + 1) ts1) := ⟨by rw [hts1, List.length_append]; have := HT.out.ln; simp; omega, fun t ht => by rw [hts1] at ht; rcases List.mem_append.1 ht with ht | ht; exact Nat.le_succ_of_le (HT.out.ks t ht); (rw [List.mem_singleton] at ht; rw [ht]; show (keysR p.M).length ≤ K + 1; have := HOK.out.ag.ln; rw [keys_len]; omega)⟩
  refine ⟨(fun h => absurd h (by decide)), ?_⟩
  first | refine hKK _ _ ?_ | skip
  clear F0 F1 F2 F3 F4 F5 F6 F7 F8 F9 F10 F11 F12 F13 F14 F15 F16 F17 F18 F19 F20 F21 F22 F23 F24 F25 F26 ee0 HCC HC1 HC2 HC3 HC5
  simp only [Act.put, List.setIfInBounds_toArray, List.set_cons_succ, List.set_cons_zero]
  rw [← hZ]
  clear hZ hts1 hbv1 hHZ hbZ hrun hkb5 hpb5 hb5 hl1 hb1 hu2 hb2 H1 H2 HB1 HB2
  have HLZ : Hid (L0 ≤ Z.heap.size) := show L0 ≤ Z.heap.size from Nat.le_trans hL HBZ.out.size
  clear HW
  have b0 : Z.cell? ⟨p.pb, 0, none⟩ = some (.pointer (some ⟨p.ab, 0, none⟩)) := (st_box HZ.out).1.cell 0
  go_wp2_with fail
  refine Calls.mono (nA Z (st_am HZ.out).1 HOK.out.ag HOK.out.ll hK HN0.out) ?_
  rintro e9 w1 ⟨lo, lc, rfl, hl1, hb1⟩
  have H1 : Hid (Held (nmE L0 (.slice lo n0 lc) (keysR p.M) :: stE L0 kb p S bv1 ts1 R) w1) := Held.fresh HZ.out hb1 (nm_P HN0.out (ownsRow_mono hl1 HLZ.out)) (fun k hk => (ownsRow_lt hl1 hk).1)
  have HB1 : Hid (Below Z.heap.size Z w1) := hb1
  clear hl1 hb1 b0
  have b1 : w1.cell? ⟨p.pb, 0, none⟩ = some (.pointer (some ⟨p.ab, 0, none⟩)) := (st_box H1.out.drop).1.cell 0
  go_wp2_with fail
  refine Calls.mono (nA w1 (st_am H1.out.drop).1 HOK.out.ag HOK.out.ll hK HN0.out) ?_
  rintro e9 w2 ⟨mo, mc, rfl, hl2, hb2⟩
  have H2 : Hid (Held (nmE L0 (.slice mo n0 mc) (keysR p.M) :: nmE L0 (.slice lo n0 lc) (keysR p.M) :: stE L0 kb p S bv1 ts1 R) w2) := Held.fresh H1.out hb2 (nm_P HN0.out (ownsRow_mono hl2 (Nat.le_trans HLZ.out HB1.out.size))) (fun k hk => (ownsRow_lt hl2 hk).1)
  have HB2 : Hid (Below Z.heap.size Z w2) := HB1.out.trans (hb2.mono HB1.out.size)
  clear hl2 hb2 b1
  have b2 : w2.cell? ⟨p.pb, 1, none⟩ = some (.pointer (some ⟨p.rb, 0, none⟩)) := (st_box H2.out.drop.drop).1.cell 1
  go_wp2_with fail
  refine Calls.mono (nR w2 (st_rm H2.out.drop.drop).1 HOK.out.ag.ln hK HN0.out) ?_
  rintro e9 w3 ⟨uo, uc, rfl, hl3, hb3⟩
  have H3 : Hid (Held (nmE L0 (.slice uo n0 uc) (keysR p.M) :: nmE L0 (.slice mo n0 mc) (keysR p.M) :: nmE L0 (.slice lo n0 lc) (keysR p.M) :: stE L0 kb p S bv1 ts1 R) w3) := Held.fresh H2.out hb3 (nm_P HN0.out (ownsRow_mono hl3 (Nat.le_trans HLZ.out HB2.out.size))) (fun k hk => (ownsRow_lt hl3 hk).1)
  have HBw3 : Hid (Below L0 w w3) := HBZ.out.trans ((HB2.out.trans (hb3.mono HB2.out.size)).mono HLZ.out)
  have HLw3 : Hid (L0 ≤ w3.heap.size) := show L0 ≤ w3.heap.size from Nat.le_trans hL HBw3.out.size
  have H0 : Hid (Held (nmE L0 (.slice lo n0 lc) (keysR p.M) :: nmE L0 (.slice mo n0 mc) (keysR p.M) :: nmE L0 (.slice uo n0 uc) (keysR p.M) :: stE L0 kb p S bv1 ts1 R) w3) := H3.out.perm (by
    refine (List.Perm.swap _ _ _).trans ?_
    refine List.Perm.trans (List.Perm.cons _ (List.Perm.swap _ _ _)) ?_
    refine List.Perm.trans (List.Perm.swap _ _ _) ?_
    exact List.Perm.refl _)
  clear hl3 hb3 b2 H1 H2 H3 HB1 HB2 HZ HBZ HLZ
  have q0 : ((n0 : Int) == (n0 : Int)) = true := by simp
  go_wp2_with fail
  go_loopw [6, 7] (fun s6 s7 wr => ∃ q : Nat, q ≤ n0 ∧ s6 = .bool true ∧ s7 = .int .i64 q ∧ Held (nmE L0 (.slice lo n0 lc) (List.replicate q qm ++ (keysR p.M).drop q) :: nmE L0 (.slice mo n0 mc) (keysR p.M) :: nmE L0 (.slice uo n0 uc) (keysR p.M) :: stE L0 kb p S bv1 ts1 R) wr ∧ Below L0 w wr) (fun _ s7 _ => n0 - (intOf s7).toNat)
  case atStart => exact ⟨0, Nat.zero_le _, rfl, rfl, by simpa using H0.out, HBw3.out⟩
  case round =>
    obtain ⟨q, hqn, rfl, rfl, hH, hbw⟩ := hrel
    have HH : Hid (Held (nmE L0 (.slice lo n0 lc) (List.replicate q qm ++ (keysR p.M).drop q) :: nmE L0 (.slice mo n0 mc) (keysR p.M) :: nmE L0 (.slice uo n0 uc) (keysR p.M) :: stE L0 kb p S bv1 ts1 R) wr) := hH
    have HBW : Hid (Below L0 w wr) := hbw
    have HLW : Hid (L0 ≤ wr.heap.size) := show L0 ≤ wr.heap.size from Nat.le_trans hL hbw.size
    clear hH hbw H0 HBw3 HLw3
    by_cases hlt : q < n0
    · obtain ⟨nm, hnm⟩ : ∃ nm, (keysR p.M)[q]? = some nm := ⟨_, List.getElem?_eq_getElem (by rw [← HN0.out]; exact hlt)⟩
      have hml := mix_len (keysR p.M) qm q (by rw [← HN0.out]; omega)
      have ho1 := nm_own (n := n0) HH.out (List.mem_cons_self ..) (by rw [hml]; exact HN0.out)
      have ho2 := nm_own (n := n0) HH.out (List.mem_cons_of_mem _ (List.mem_cons_of_mem _ (List.mem_cons_self ..))) HN0.out
      obtain ⟨g1, gc1, hg1, _, _, hgl1, hc1⟩ := own_at' ho1 (by omega)
      obtain ⟨g2, gc2, hg2, _, _, hgl2, hc2⟩ := own_at' ho2 (by omega)
      cases hg1
      cases hg2
      have k0 : wr.cell? ⟨g1, q, none⟩ = some (.string ⟨nm.toArray⟩) := hc1 q _ (flatS_at (mix_at (keysR p.M) qm nm q hnm))
      have k1 : wr.cell? ⟨g2, q, none⟩ = some (.string ⟨nm.toArray⟩) := hc2 q _ (flatS_at hnm)
      have HHd : Held (nmE L0 (.slice (some ⟨g1, 0, none⟩) n0 lc) (List.replicate q qm ++ (keysR p.M).drop q) :: nmE L0 (.slice mo n0 mc) (keysR p.M) :: nmE L0 (.slice (some ⟨g2, 0, none⟩) n0 uc) (keysR p.M) :: stE L0 kb p S bv1 ts1 R) ({ wr with drawn := wr.drawn + 1 } : World) := HH.out.more (Below.drew (Below.refl _ _))
      obtain ⟨hN1, hN2, hN3, u9, hN4⟩ := nm_set (lo := none) (by rw [hml]; exact HN0.out) HHd HLW.out hlt qm
      rw [set_mix (keysR p.M) qm q (by rw [← HN0.out]; exact hlt)] at hN1
      obtain ⟨U, hU⟩ : ∃ U, U = ({ wr with drawn := wr.drawn + 1 } : World) := ⟨_, rfl⟩
      have HUq : Hid (U = ({ wr with drawn := wr.drawn + 1 } : World)) := hU
      rw [← hU] at hN1 hN2 hN3 hN4
      have HNX : Hid (Held (nmE L0 (.slice (some ⟨g1, 0, none⟩) n0 lc) (List.replicate (q + 1) qm ++ (keysR p.M).drop (q + 1)) :: nmE L0 (.slice mo n0 mc) (keysR p.M) :: nmE L0 (.slice (some ⟨g2, 0, none⟩) n0 uc) (keysR p.M) :: stE L0 kb p S bv1 ts1 R) (U.setCell ⟨g1, q, none⟩ (.string ⟨#[63]⟩))) := hN1
      have HBN : Hid (Below L0 w (U.setCell ⟨g1, q, none⟩ (.string ⟨#[63]⟩))) := show Below L0 w (U.setCell ⟨g1, q, none⟩ (.string ⟨#[63]⟩)) from (show Below L0 w U from by rw [hU]; exact Below.drew HBW.out).trans (show Below L0 U (U.setCell ⟨g1, q, none⟩ (.string ⟨#[63]⟩)) from hN2)
      clear hml ho1 ho2 hgl1 hgl2 hc1 hc2 HHd hN1 hN2 hnm hU
      go_wp2_with fail
      first | rename_i KK hKK | skip
      try rw [show ∀ a : Act, a.put none undef = a from fun _ => rfl]
      refine wp_region_mix (fun wq => wq.cell? ⟨g1, q, none⟩ = some (.string ⟨nm.toArray⟩) ∧ wq.cell? ⟨g2, q, none⟩ = some (.string ⟨nm.toArray⟩)) (fun i => i == 99) 99 (by kernel_rfl) rfl (by kernel_rfl) (by kernel_rfl) (by kernel_rfl) ?_
      refine withFrP (N := 155) rfl ?_
      intro f0 F0 hff
      have ee3 : f0 3 = Value.slice (some ⟨g1, 0, none⟩) n0 lc := hff 3
      have ee5 : f0 5 = Value.slice (some ⟨g2, 0, none⟩) n0 uc := hff 5
      have ee7 : f0 7 = Value.int .i64 (q : Nat) := hff 7
      clear hff
      have HCC : (fun wq => wq.cell? ⟨g1, q, none⟩ = some (.string ⟨nm.toArray⟩) ∧ wq.cell? ⟨g2, q, none⟩ = some (.string ⟨nm.toArray⟩)) (({ wr with drawn := wr.drawn + 1 } : World)) := ⟨k0, k1⟩
      refine lyp F0 rfl HCC rfl (by omega) (wanted_none rfl) (v := Value.slice (some ⟨g1, 0, none⟩) n0 lc) (fun wr hwr => by simp only [execOp, (F0.eval 3 (by omega)).trans (show _ = Value.slice (some ⟨g1, 0, none⟩) n0 lc from by simp [upd, ee3, ee5, ee7])]; first | rfl | simp [go_sem]) fun F1 => ?_
      refine lyp F1 rfl HCC rfl (by omega) (wanted_none rfl) (v := Value.int .i64 (q : Nat)) (fun wr hwr => by simp only [execOp, (F1.eval 7 (by omega)).trans (show _ = Value.int .i64 (q : Nat) from by simp [upd, ee3, ee5, ee7])]; first | rfl | simp [go_sem]) fun F2 => ?_
      refine lyp F2 rfl HCC rfl (by omega) (wanted_none rfl) (v := Value.pointer (some ⟨g1, q, none⟩)) (fun wr hwr => by simp only [execOp, (F2.eval 75 (by omega)).trans (show _ = Value.slice (some ⟨g1, 0, none⟩) n0 lc from by simp [upd, ee3, ee5, ee7]), (F2.eval 76 (by omega)).trans (show _ = Value.int .i64 (q : Nat) from by simp [upd, ee3, ee5, ee7])]; simp only [Sem.run_bind, Sem.run_pure, Result.andThen_ok, idx_run 39 9 1 Try.underlying39 (by kernel_rfl) wr g1 0 n0 lc q (by omega), Nat.zero_add, Nat.mul_one]; try rfl) fun F3 => ?_
      refine lyp F3 rfl HCC rfl (by omega) (wanted_none rfl) (v := Value.string ⟨nm.toArray⟩) (fun wr hwr => by simp only [execOp, (F3.eval 77 (by omega)).trans (show _ = Value.pointer (some ⟨g1, q, none⟩) from by simp [upd, ee3, ee5, ee7])]; simp [go_sem, hwr.1]) fun F4 => ?_
      refine lyp F4 rfl HCC rfl (by omega) (wanted_none rfl) (v := Value.slice (some ⟨g2, 0, none⟩) n0 uc) (fun wr hwr => by simp only [execOp, (F4.eval 5 (by omega)).trans (show _ = Value.slice (some ⟨g2, 0, none⟩) n0 uc from by simp [upd, ee3, ee5, ee7])]; first | rfl | simp [go_sem]) fun F5 => ?_
      refine lyp F5 rfl HCC rfl (by omega) (wanted_none rfl) (v := Value.int .i64 (q : Nat)) (fun wr hwr => by simp only [execOp, (F5.eval 7 (by omega)).trans (show _ = Value.int .i64 (q : Nat) from by simp [upd, ee3, ee5, ee7])]; first | rfl | simp [go_sem]) fun F6 => ?_
      refine lyp F6 rfl HCC rfl (by omega) (wanted_none rfl) (v := Value.pointer (some ⟨g2, q, none⟩)) (fun wr hwr => by simp only [execOp, (F6.eval 79 (by omega)).trans (show _ = Value.slice (some ⟨g2, 0, none⟩) n0 uc from by simp [upd, ee3, ee5, ee7]), (F6.eval 80 (by omega)).trans (show _ = Value.int .i64 (q : Nat) from by simp [upd, ee3, ee5, ee7])]; simp only [Sem.run_bind, Sem.run_pure, Result.andThen_ok, idx_run 39 9 1 Try.underlying39 (by kernel_rfl) wr g2 0 n0 uc q (by omega), Nat.zero_add, Nat.mul_one]; try rfl) fun F7 => ?_
      refine lyp F7 rfl HCC rfl (by omega) (wanted_none rfl) (v := Value.string ⟨nm.toArray⟩) (fun wr hwr => by simp only [execOp, (F7.eval 81 (by omega)).trans (show _ = Value.pointer (some ⟨g2, q, none⟩) from by simp [upd, ee3, ee5, ee7])]; simp [go_sem, hwr.2]) fun F8 => ?_
      refine lyp F8 rfl HCC rfl (by omega) (wanted_none rfl) (v := Value.bool true) (fun wr hwr => by simp only [execOp, (F8.eval 78 (by omega)).trans (show _ = Value.string ⟨nm.toArray⟩ from by simp [upd, ee3, ee5, ee7]), (F8.eval 82 (by omega)).trans (show _ = Value.string ⟨nm.toArray⟩ from by simp [upd, ee3, ee5, ee7])]; simp [go_sem, Act.eval]) fun F9 => ?_
      refine lyp F9 rfl HCC rfl (by omega) (wanted_none rfl) (v := Value.bool true) (fun wr hwr => by simp only [execOp, (F9.eval 83 (by omega)).trans (show _ = Value.bool true from by simp [upd, ee3, ee5, ee7])]; first | rfl | simp [go_sem]) fun F10 => ?_
      refine ⟨fun _ => HCC, ?_⟩
      first | refine hKK _ _ ?_ | skip
      clear F0 F1 F2 F3 F4 F5 F6 F7 F8 F9 F10 ee3 ee5 ee7 HCC
      simp only [Act.put, List.setIfInBounds_toArray, List.set_cons_succ, List.set_cons_zero]
      rw [← HUq.out]
      clear HUq k0 k1
      go_wp2_with fail
      go_roundw
      case rel => exact ⟨q + 1, by omega, rfl, by go_num, HNX.out, HBN.out⟩
      case measure => simp [intOf]; omega
    · have hqe : q = n0 := by omega
      have HM1 : Hid (Held (nmE L0 (.slice lo n0 lc) (List.replicate n0 qm) :: nmE L0 (.slice mo n0 mc) (keysR p.M) :: nmE L0 (.slice uo n0 uc) (keysR p.M) :: stE L0 kb p S bv1 ts1 R) wr) := show Held (nmE L0 (.slice lo n0 lc) (List.replicate n0 qm) :: nmE L0 (.slice mo n0 mc) (keysR p.M) :: nmE L0 (.slice uo n0 uc) (keysR p.M) :: stE L0 kb p S bv1 ts1 R) wr from by have h1 := HH.out; rw [hqe, List.drop_of_length_le (by rw [← HN0.out]; exact Nat.le_refl _), List.append_nil] at h1; exact h1
      clear hqe HH
      obtain ⟨W4, hW4⟩ : ∃ y, y = wr := ⟨_, rfl⟩
      have HM4 : Hid (Held (nmE L0 (.slice lo n0 lc) (List.replicate n0 qm) :: nmE L0 (.slice mo n0 mc) (keysR p.M) :: nmE L0 (.slice uo n0 uc) (keysR p.M) :: stE L0 kb p S bv1 ts1 R) W4) := show Held (nmE L0 (.slice lo n0 lc) (List.replicate n0 qm) :: nmE L0 (.slice mo n0 mc) (keysR p.M) :: nmE L0 (.slice uo n0 uc) (keysR p.M) :: stE L0 kb p S bv1 ts1 R) W4 from by rw [hW4]; exact HM1.out
      have HB4 : Hid (Below L0 w W4) := show Below L0 w W4 from by rw [hW4]; exact HBW.out
      clear HM1 HBW HLW
      go_wp2_with fail
      rw [← hW4]
      clear hW4
      go_loopw [6, 8] (fun s6 s8 wr => ∃ q : Nat, q ≤ n0 ∧ s6 = .bool true ∧ s8 = .int .i64 q ∧ Below W4.heap.size W4 wr) (fun _ s8 _ => n0 - (intOf s8).toNat)
      case atStart => exact ⟨0, Nat.zero_le _, rfl, rfl, Below.refl _ _⟩
      case round =>
        obtain ⟨q, hqn, rfl, rfl, hbw⟩ := hrel
        have HBW : Hid (Below W4.heap.size W4 wr) := hbw
        clear hbw
        by_cases hlt : q < n0
        · obtain ⟨nm, hnm⟩ : ∃ nm, (keysR p.M)[q]? = some nm := ⟨_, List.getElem?_eq_getElem (by rw [← HN0.out]; exact hlt)⟩
          have ho1 := nm_own (n := n0) (HM4.out.more HBW.out) (List.mem_cons_of_mem _ (List.mem_cons_self ..)) HN0.out
          have ho2 := nm_own (n := n0) (HM4.out.more HBW.out) (List.mem_cons_of_mem _ (List.mem_cons_of_mem _ (List.mem_cons_self ..))) HN0.out
          obtain ⟨g1, gc1, hg1, _, _, hgl1, hc1⟩ := own_at' ho1 (by omega)
          obtain ⟨g2, gc2, hg2, _, _, hgl2, hc2⟩ := own_at' ho2 (by omega)
          cases hg1
          cases hg2
          have k0 : wr.cell? ⟨g1, q, none⟩ = some (.string ⟨nm.toArray⟩) := hc1 q _ (flatS_at hnm)
          have k1 : wr.cell? ⟨g2, q, none⟩ = some (.string ⟨nm.toArray⟩) := hc2 q _ (flatS_at hnm)
          have HBN : Hid (Below W4.heap.size W4 ({ wr with drawn := wr.drawn + 1 } : World)) := Below.drew HBW.out
          clear ho1 ho2 hgl1 hgl2 hc1 hc2 hnm
          go_wp2_with fail
          first | rename_i KK hKK | skip
          try rw [show ∀ a : Act, a.put none undef = a from fun _ => rfl]
          refine wp_region_mix (fun wq => wq.cell? ⟨g1, q, none⟩ = some (.string ⟨nm.toArray⟩) ∧ wq.cell? ⟨g2, q, none⟩ = some (.string ⟨nm.toArray⟩)) (fun i => i == 99) 99 (by kernel_rfl) rfl (by kernel_rfl) (by kernel_rfl) (by kernel_rfl) ?_
          refine withFrP (N := 155) rfl ?_
          intro f0 F0 hff
          have ee4 : f0 4 = Value.slice (some ⟨g1, 0, none⟩) n0 mc := hff 4
          have ee5 : f0 5 = Value.slice (some ⟨g2, 0, none⟩) n0 uc := hff 5
          have ee8 : f0 8 = Value.int .i64 (q : Nat) := hff 8
          clear hff
          have HCC : (fun wq => wq.cell? ⟨g1, q, none⟩ = some (.string ⟨nm.toArray⟩) ∧ wq.cell? ⟨g2, q, none⟩ = some (.string ⟨nm.toArray⟩)) (({ wr with drawn := wr.drawn + 1 } : World)) := ⟨k0, k1⟩
          refine lyp F0 rfl HCC rfl (by omega) (wanted_none rfl) (v := Value.slice (some ⟨g1, 0, none⟩) n0 mc) (fun wr hwr => by simp only [execOp, (F0.eval 4 (by omega)).trans (show _ = Value.slice (some ⟨g1, 0, none⟩) n0 mc from by simp [upd, ee4, ee5, ee8])]; first | rfl | simp [go_sem]) fun F1 => ?_
          refine lyp F1 rfl HCC rfl (by omega) (wanted_none rfl) (v := Value.int .i64 (q : Nat)) (fun wr hwr => by simp only [execOp, (F1.eval 8 (by omega)).trans (show _ = Value.int .i64 (q : Nat) from by simp [upd, ee4, ee5, ee8])]; first | rfl | simp [go_sem]) fun F2 => ?_
          refine lyp F2 rfl HCC rfl (by omega) (wanted_none rfl) (v := Value.pointer (some ⟨g1, q, none⟩)) (fun wr hwr => by simp only [execOp, (F2.eval 96 (by omega)).trans (show _ = Value.slice (some ⟨g1, 0, none⟩) n0 mc from by simp [upd, ee4, ee5, ee8]), (F2.eval 97 (by omega)).trans (show _ = Value.int .i64 (q : Nat) from by simp [upd, ee4, ee5, ee8])]; simp only [Sem.run_bind, Sem.run_pure, Result.andThen_ok, idx_run 39 9 1 Try.underlying39 (by kernel_rfl) wr g1 0 n0 mc q (by omega), Nat.zero_add, Nat.mul_one]; try rfl) fun F3 => ?_
          refine lyp F3 rfl HCC rfl (by omega) (wanted_none rfl) (v := Value.string ⟨nm.toArray⟩) (fun wr hwr => by simp only [execOp, (F3.eval 98 (by omega)).trans (show _ = Value.pointer (some ⟨g1, q, none⟩) from by simp [upd, ee4, ee5, ee8])]; simp [go_sem, hwr.1]) fun F4 => ?_
          refine lyp F4 rfl HCC rfl (by omega) (wanted_none rfl) (v := Value.slice (some ⟨g2, 0, none⟩) n0 uc) (fun wr hwr => by simp only [execOp, (F4.eval 5 (by omega)).trans (show _ = Value.slice (some ⟨g2, 0, none⟩) n0 uc from by simp [upd, ee4, ee5, ee8])]; first | rfl | simp [go_sem]) fun F5 => ?_
          refine lyp F5 rfl HCC rfl (by omega) (wanted_none rfl) (v := Value.int .i64 (q : Nat)) (fun wr hwr => by simp only [execOp, (F5.eval 8 (by omega)).trans (show _ = Value.int .i64 (q : Nat) from by simp [upd, ee4, ee5, ee8])]; first | rfl | simp [go_sem]) fun F6 => ?_
          refine lyp F6 rfl HCC rfl (by omega) (wanted_none rfl) (v := Value.pointer (some ⟨g2, q, none⟩)) (fun wr hwr => by simp only [execOp, (F6.eval 100 (by omega)).trans (show _ = Value.slice (some ⟨g2, 0, none⟩) n0 uc from by simp [upd, ee4, ee5, ee8]), (F6.eval 101 (by omega)).trans (show _ = Value.int .i64 (q : Nat) from by simp [upd, ee4, ee5, ee8])]; simp only [Sem.run_bind, Sem.run_pure, Result.andThen_ok, idx_run 39 9 1 Try.underlying39 (by kernel_rfl) wr g2 0 n0 uc q (by omega), Nat.zero_add, Nat.mul_one]; try rfl) fun F7 => ?_
          refine lyp F7 rfl HCC rfl (by omega) (wanted_none rfl) (v := Value.string ⟨nm.toArray⟩) (fun wr hwr => by simp only [execOp, (F7.eval 102 (by omega)).trans (show _ = Value.pointer (some ⟨g2, q, none⟩) from by simp [upd, ee4, ee5, ee8])]; simp [go_sem, hwr.2]) fun F8 => ?_
          refine lyp F8 rfl HCC rfl (by omega) (wanted_none rfl) (v := Value.bool true) (fun wr hwr => by simp only [execOp, (F8.eval 99 (by omega)).trans (show _ = Value.string ⟨nm.toArray⟩ from by simp [upd, ee4, ee5, ee8]), (F8.eval 103 (by omega)).trans (show _ = Value.string ⟨nm.toArray⟩ from by simp [upd, ee4, ee5, ee8])]; simp [go_sem, Act.eval]) fun F9 => ?_
          refine lyp F9 rfl HCC rfl (by omega) (wanted_none rfl) (v := Value.bool true) (fun wr hwr => by simp only [execOp, (F9.eval 104 (by omega)).trans (show _ = Value.bool true from by simp [upd, ee4, ee5, ee8])]; first | rfl | simp [go_sem]) fun F10 => ?_
          refine ⟨fun _ => HCC, ?_⟩
          first | refine hKK _ _ ?_ | skip
          clear F0 F1 F2 F3 F4 F5 F6 F7 F8 F9 F10 ee4 ee5 ee8 HCC
          simp only [Act.put, List.setIfInBounds_toArray, List.set_cons_succ, List.set_cons_zero]
          clear k0 k1
          go_wp2_with fail
          go_roundw
          case rel => exact ⟨q + 1, by omega, rfl, by go_num, HBN.out⟩
          case measure => simp [intOf]; omega
        · obtain ⟨W5, hW5⟩ : ∃ y, y = wr := ⟨_, rfl⟩
          have HM5 : Hid (Held (nmE L0 (.slice lo n0 lc) (List.replicate n0 qm) :: nmE L0 (.slice mo n0 mc) (keysR p.M) :: nmE L0 (.slice uo n0 uc) (keysR p.M) :: stE L0 kb p S bv1 ts1 R) W5) := show Held (nmE L0 (.slice lo n0 lc) (List.replicate n0 qm) :: nmE L0 (.slice mo n0 mc) (keysR p.M) :: nmE L0 (.slice uo n0 uc) (keysR p.M) :: stE L0 kb p S bv1 ts1 R) W5 from by rw [hW5]; exact HM4.out.more HBW.out
          have HB5 : Hid (Below L0 w W5) := show Below L0 w W5 from by rw [hW5]; exact HB4.out.trans (HBW.out.mono (Nat.le_trans hL HB4.out.size))
          obtain ⟨po, pc, hpv, _⟩ := own_slice (st_ls HM5.out.drop.drop.drop)
          rw [List.length_replicate] at hpv
          have HPB : Hid (Blk W5 p.pb (p.cs kb) 76) := (st_box HM5.out.drop.drop.drop).1
          have HPL : Hid (W5.ownsRow L0 9 1 (.slice po p.ln pc) p.ln (flatS (List.replicate p.ln pct))) := show World.ownsRow W5 L0 9 1 (.slice po p.ln pc) p.ln (flatS (List.replicate p.ln pct)) from by have h1 := st_ls HM5.out.drop.drop.drop; rw [List.length_replicate, hpv] at h1; exact h1
          have x2 : W5.cell? ⟨p.pb, 2, none⟩ = some (.slice po p.ln pc) := by rw [← hpv]; exact HPB.out.cell 2
          have hlnK : p.ln ≤ 90000 := Nat.le_trans HOK.out.ln hK
          obtain ⟨ln, hln⟩ : ∃ y, y = p.ln := ⟨_, rfl⟩
          rw [← hln] at x2 HPL hlnK
          clear HM4 HB4 HBW hpv hln
          go_wp2_with fail
          rw [← hW5]
          clear hW5
          go_loopw [6, 9] (fun s6 s9 wr => ∃ q : Nat, q ≤ ln ∧ s6 = .bool true ∧ s9 = .int .i64 q ∧ wr = W5) (fun _ s9 _ => ln - (intOf s9).toNat)
          case atStart => exact ⟨0, Nat.zero_le _, rfl, rfl, rfl⟩
          case round =>
            obtain ⟨q, hqn, rfl, rfl, rfl⟩ := hrel
            by_cases hlt : q < ln
            · obtain ⟨g1, gc1, hg1, _, _, hgl1, hc1⟩ := own_at' HPL.out (by omega)
              cases hg1
              have k0 : wr.cell? ⟨g1, q, none⟩ = some (.string ⟨#[37]⟩) := hc1 q _ (flatS_at (by rw [List.getElem?_replicate, if_pos hlt]; rfl))
              clear hgl1 hc1
              go_wp2_with fail
              go_roundw
              case rel => exact ⟨q + 1, by omega, by first | rfl | simp, by go_num, by first | rfl | trivial⟩
              case measure => simp [intOf]; omega
            · clear HPL
              have HM6 := HM5
              clear HM5
              go_wp2_with fail
              go_loopw [10] (fun s10 wr2 => ∃ q : Nat, q ≤ n0 ∧ s10 = .int .i64 q ∧ Held (nmE L0 (.slice lo n0 lc) (List.replicate q pct ++ (List.replicate n0 qm).drop q) :: nmE L0 (.slice mo n0 mc) (keysR p.M) :: nmE L0 (.slice uo n0 uc) (keysR p.M) :: stE L0 kb p S bv1 ts1 R) wr2 ∧ Below L0 w wr2) (fun s10 _ => n0 - (intOf s10).toNat)
              case atStart => exact ⟨0, Nat.zero_le _, rfl, by simpa using HM6.out, HB5.out⟩
              case round =>
                obtain ⟨q2, hqn2, rfl, hH, hbw⟩ := hrel
                have HH : Hid (Held (nmE L0 (.slice lo n0 lc) (List.replicate q2 pct ++ (List.replicate n0 qm).drop q2) :: nmE L0 (.slice mo n0 mc) (keysR p.M) :: nmE L0 (.slice uo n0 uc) (keysR p.M) :: stE L0 kb p S bv1 ts1 R) wr) := hH
                have HBW : Hid (Below L0 w wr) := hbw
                have HLW : Hid (L0 ≤ wr.heap.size) := show L0 ≤ wr.heap.size from Nat.le_trans hL hbw.size
                clear hH hbw HM6 HB5
                by_cases hlt2 : q2 < n0
                · have hml := mix_len (List.replicate n0 qm) pct q2 (by simp; omega)
                  rw [List.length_replicate] at hml
                  have ho1 := nm_own (n := n0) HH.out (List.mem_cons_self ..) hml.symm
                  obtain ⟨g1, gc1, hg1, _, _, hgl1, hc1⟩ := own_at' ho1 (by omega)
                  cases hg1
                  obtain ⟨hN1, hN2, hN3, u9, hN4⟩ := nm_set (lo := none) hml.symm HH.out HLW.out hlt2 pct
                  rw [set_mix (List.replicate n0 qm) pct q2 (by simp; omega)] at hN1
                  have HNX : Hid (Held (nmE L0 (.slice (some ⟨g1, 0, none⟩) n0 lc) (List.replicate (q2 + 1) pct ++ (List.replicate n0 qm).drop (q2 + 1)) :: nmE L0 (.slice mo n0 mc) (keysR p.M) :: nmE L0 (.slice uo n0 uc) (keysR p.M) :: stE L0 kb p S bv1 ts1 R) (wr.setCell ⟨g1, q2, none⟩ (.string ⟨#[37]⟩))) := hN1
                  have HBN : Hid (Below L0 w (wr.setCell ⟨g1, q2, none⟩ (.string ⟨#[37]⟩))) := HBW.out.trans (show Below L0 wr (wr.setCell ⟨g1, q2, none⟩ (.string ⟨#[37]⟩)) from hN2)
                  clear hml ho1 hgl1 hc1 hN1 hN2
                  go_wp2_with fail
                  go_roundw
                  case rel => exact ⟨q2 + 1, by omega, by go_num, HNX.out, HBN.out⟩
                  case measure => simp [intOf]; omega
                · have hqe : q2 = n0 := by omega
                  have HG0 : Hid (Held (grE L0 (.slice lo n0 lc) n0 (flatS (List.replicate n0 pct)) (.slice lo n0 lc) n0 (flatS (List.replicate n0 pct)) :: nmE L0 (.slice mo n0 mc) (keysR p.M) :: nmE L0 (.slice uo n0 uc) (keysR p.M) :: stE L0 kb p S bv1 ts1 R) wr) := gr_start (by simp) (by have h1 := HH.out; rw [hqe, List.drop_of_length_le (by simp), List.append_nil] at h1; exact h1)
                  clear hqe HH
                  go_wp2_with fail
                  go_loopw [11, 12] (fun s11 s12 wr => ∃ (j : Nat) (x : Value) (ys : List Value), x = s11 ∧ j ≤ 80 ∧ s12 = .int .i64 j ∧ Held (grE L0 (.slice lo n0 lc) n0 (flatS (List.replicate n0 pct)) x (n0 + j) ys :: nmE L0 (.slice mo n0 mc) (keysR p.M) :: nmE L0 (.slice uo n0 uc) (keysR p.M) :: stE L0 kb p S bv1 ts1 R) wr ∧ Below L0 w wr) (fun _ s12 _ => 80 - (intOf s12).toNat)
                  case atStart => exact ⟨0, _, _, rfl, Nat.zero_le _, rfl, HG0.out, HBW.out⟩
                  case round =>
                    obtain ⟨j, xv, ys, rfl, hj, rfl, hG, hbw⟩ := hrel
                    have HG : Hid (Held (grE L0 (.slice lo n0 lc) n0 (flatS (List.replicate n0 pct)) xv (n0 + j) ys :: nmE L0 (.slice mo n0 mc) (keysR p.M) :: nmE L0 (.slice uo n0 uc) (keysR p.M) :: stE L0 kb p S bv1 ts1 R) wr) := hG
                    have HBG : Hid (Below L0 w wr) := hbw
                    have hLG : L0 ≤ wr.heap.size := Nat.le_trans hL hbw.size
                    clear HG0 HBW hbw
                    obtain ⟨xo, xc, hxv, _⟩ := own_slice ((hG.all _ (List.mem_cons_self ..)).2.1)
                    subst hxv
                    by_cases hj2 : j < 80
                    · obtain ⟨x2v, w6, hrun, hG2, hb6⟩ := gr_app hG hLG (by omega) amp
                      have HRN : Hid (∀ ty, (Builtin.append_ #[39, 39] ty #[.slice xo (n0 + j) xc, .slice (some ⟨wr.heap.size, 0, none⟩) 1 1]).run Try.prog (wr.alloc (.cells #[.string ⟨#[38]⟩] 9)) = .ok x2v w6) := hrun
                      have HG2 : Hid (Held (grE L0 (.slice lo n0 lc) n0 (flatS (List.replicate n0 pct)) x2v (n0 + (j + 1)) (ys ++ [.string ⟨amp.toArray⟩]) :: nmE L0 (.slice mo n0 mc) (keysR p.M) :: nmE L0 (.slice uo n0 uc) (keysR p.M) :: stE L0 kb p S bv1 ts1 R) w6) := hG2
                      have HB6 : Hid (Below L0 w w6) := HBG.out.trans hb6
                      clear hG hrun hG2 hb6
                      go_wp2_with (at_builtin; refine wpList_runs rfl _ _ 39 rfl rfl rfl HRN.out ?_)
                      go_roundw
                      case rel => exact ⟨j + 1, _, _, rfl, by omega, by go_num, HG2.out, HB6.out⟩
                      case measure => simp [intOf]; omega
                    · have hj80 : j = 80 := by omega
                      subst hj80
                      have hE := gr_end (by simp) hG
                      have hpb := (st_box hE.drop.drop.drop)
                      have y2 : wr.cell? ⟨p.pb, 2, none⟩ = some p.lv := hpb.1.cell 2
                      have f2 : wr.frozen? ⟨p.pb, 2, none⟩ = false := hpb.1.frozen 2
                      obtain ⟨Y, hY⟩ : ∃ Y, Y = wr.setCell ⟨p.pb, 2, none⟩ (.slice lo n0 lc) := ⟨_, rfl⟩
                      have HF : Hid (PdPost L0 kb K p S R w (.returned (.bool true)) Y) := show PdPost L0 kb K p S R w (.returned (.bool true)) Y from names_end hL HOK.out HN0.out HT1.out HBG.out hE hY
                      have q3 : IntKind.i64.wrap ((n0 : Int) + 80) = (n0 : Int) + 80 := wrB (by omega) (by omega)
                      have q4 : (((n0 + 80 : Nat) : Int) == (n0 : Int) + 80) = true := by simp
                      clear hG hE hpb HG
                      go_wp2_with fail
                      rw [← hY]
                      go_ret
                      exact HF.out
end Go.Proofs.Ytaiknlnjahjeiaa
