import Derived.Test.YtaiknlnjahjeiaaApT
import Derived.Deep.Cut
import Derived.BigQuiet
namespace Go.Proofs.Ytaiknlnjahjeiaa
open Go.RowKit Go.PlainAid Go.MapKept
set_option linter.unusedVariables false
set_option linter.unusedSimpArgs false
theorem Held.sub {L : Nat} {es es' : List (Ent L)} {w : World} (h : Held es w) (hs : es'.Sublist es) : Held es' w := ⟨fun e he => h.all e (hs.subset he), h.dj.sublist hs⟩
def TD.el (t : TD) : EL := ⟨t.l, t.w, .slice none 0 0, t.ks, none⟩
theorem els_sub (L0 : Nat) : ∀ ts : List TD, ((ts.map TD.el).map (EL.ent L0)).Sublist (ts.flatMap (TD.ents L0))
  | [] => List.Sublist.slnil
  | t :: ts => by
    have ih := els_sub L0 ts
    show (nmE L0 t.l t.ks :: ((ts.map TD.el).map (EL.ent L0))).Sublist ([nmE L0 t.l t.ks, nmE L0 t.w t.ks] ++ ts.flatMap (TD.ents L0))
    exact List.Sublist.cons_cons _ (List.Sublist.cons _ ih)
theorem els_flat (ts : List TD) : flatE (ts.map TD.el) = flatT ts := by
  unfold flatE flatT
  rw [List.flatMap_map]
  rfl
def Marked (K j : Nat) (d : EL) : Prop := d.gr = none ∧ ∃ n, n ≤ K ∧ d.cur = List.replicate n (mkS j)
def Grown (K j : Nat) (d : EL) : Prop := ∃ n, n ≤ K ∧ d.cur = List.replicate n (mkS j) ∧ d.gr = some (List.replicate (n + 100) (mkS j))
theorem snoc_at {P : Nat → EL → Prop} {A : List EL} {d : EL} (h : ∀ j x, A[j]? = some x → P j x) (hd : P A.length d) : ∀ j x, (A ++ [d])[j]? = some x → P j x := fun j x hx => by
  rcases Nat.lt_or_ge j A.length with hj | hj
  · rw [List.getElem?_append_left hj] at hx
    exact h j x hx
  · rw [List.getElem?_append_right hj] at hx
    have hj2 : j - A.length = 0 := by
      rcases Nat.eq_zero_or_pos (j - A.length) with h0 | h0
      · exact h0
      · rw [List.getElem?_eq_none (by simp; omega)] at hx
        cases hx
    rw [hj2] at hx
    simp at hx
    have : j = A.length := by omega
    rw [this, ← hx]
    exact hd
theorem drop_at {D : List EL} {i : Nat} {d : EL} (h : D[i]? = some d) : D.drop i = d :: D.drop (i + 1) := by
  obtain ⟨h1, h2⟩ := List.getElem?_eq_some_iff.1 h
  rw [List.drop_eq_getElem_cons h1, h2]
theorem mid_at (A : List EL) (d : EL) (D : List EL) : (A ++ d :: D)[A.length]? = some d := by simp
theorem BK.bg {L0 kb bn bc : Nat} {bo : Option Addr} {D : List EL} {w : World} (h : BK L0 kb (.slice bo bn bc) D w) (h0 : 0 < D.length) : ∃ bg, bo = some ⟨bg, 0, none⟩ := by
  obtain ⟨g, c, hg, _⟩ := own_at' h.row h0
  cases hg
  exact ⟨g, rfl⟩
set_option maxRecDepth 100000 in
set_option maxHeartbeats 12800000 in
theorem apart_any {L0 kb K : Nat} {bv : Value} {ts : List TD} (w : World) (h : Held (boxE L0 kb #[bv] 87 :: rowE L0 100 3 bv ts.length (flatT ts) :: ts.flatMap (TD.ents L0)) w) (hL : L0 ≤ w.heap.size) (ht : TOk K ts) (hK : K ≤ 90000) :
    Calls Try.prog 29 #[.pointer (some ⟨kb, 0, none⟩)] w fun e w' => e = .returned (.bool true) ∧ Below L0 w w' := by
  have hrow0 : w.ownsRow L0 100 3 bv ts.length (flatT ts) := h.all (rowE L0 100 3 bv ts.length (flatT ts)) (by simp)
  obtain ⟨bo, bc, hbv, _⟩ := own_slice hrow0
  obtain ⟨bn, hbn⟩ : ∃ y, y = ts.length := ⟨_, rfl⟩
  rw [← hbn] at hbv
  subst hbv
  have HBN0 : Hid (bn = ts.length) := hbn
  have hbK : bn ≤ 90000 := by rw [hbn]; exact Nat.le_trans ht.ln hK
  have HT : Hid (TOk K ts) := ht
  have HW : Hid (Held (boxE L0 kb #[.slice bo bn bc] 87 :: rowE L0 100 3 (.slice bo bn bc) ts.length (flatT ts) :: ts.flatMap (TD.ents L0)) w) := h
  have HK0 : Hid (Blk w kb #[.slice bo bn bc] 87) := (h.all (boxE L0 kb #[.slice bo bn bc] 87) (List.mem_cons_self ..)).1
  have HB0 : Hid (BK L0 kb (.slice bo bn bc) (ts.map TD.el) w) := show BK L0 kb (.slice bo bn bc) (ts.map TD.el) w from by
    unfold BK
    rw [List.length_map, els_flat]
    exact h.sub (List.Sublist.cons_cons _ (List.Sublist.cons_cons _ (els_sub L0 ts)))
  clear h hrow0 hbn ht
  go_enter Try.func29, Try.ntmps29
  go_wp2_with fail
  go_loopw [3] (fun s3 wr => ∃ i : Nat, i ≤ bn ∧ s3 = .int .i64 i ∧ Below w.heap.size w wr) (fun s3 _ => bn - (intOf s3).toNat)
  case atStart => exact ⟨0, Nat.zero_le _, rfl, Below.refl _ _⟩
  case round =>
    obtain ⟨i, hin, rfl, hbw⟩ := hrel
    have HBW : Hid (Below w.heap.size w wr) := hbw
    have HKB0 : Hid (Blk wr kb #[.slice bo bn bc] 87) := HK0.out.below hbw HK0.out.lt
    have x0 : wr.cell? ⟨kb, 0, none⟩ = some (.slice bo bn bc) := HKB0.out.cell 0
    clear hbw
    by_cases hlt : i < bn
    · obtain ⟨t, htt⟩ : ∃ t, ts[i]? = some t := ⟨_, List.getElem?_eq_getElem (by rw [← HBN0.out]; exact hlt)⟩
      have htm := List.mem_of_getElem? htt
      have hBr := HB0.out.more HBW.out
      have hrr := hBr.row
      obtain ⟨bg, hbg⟩ := hBr.bg (by rw [List.length_map]; have := (List.getElem?_eq_some_iff.1 htt).1; omega)
      subst hbg
      obtain ⟨k0, k1, _⟩ := hBr.cells (i := i) (d := TD.el t) (by rw [List.getElem?_map, htt]; rfl)
      simp only [TD.el] at k0 k1
      have hl1 : w.ownsRow L0 9 1 t.l t.ks.length (flatS t.ks) := HW.out.all (nmE L0 t.l t.ks) (List.mem_cons_of_mem _ (List.mem_cons_of_mem _ (List.mem_flatMap.2 ⟨t, htm, by simp [TD.ents]⟩)))
      have hl2 : w.ownsRow L0 9 1 t.w t.ks.length (flatS t.ks) := HW.out.all (nmE L0 t.w t.ks) (List.mem_cons_of_mem _ (List.mem_cons_of_mem _ (List.mem_flatMap.2 ⟨t, htm, by simp [TD.ents]⟩)))
      obtain ⟨o1, c1, e1, _⟩ := own_slice hl1
      obtain ⟨o2, c2, e2, _⟩ := own_slice hl2
      rw [e1] at k0 hl1
      rw [e2] at k1 hl2
      have hks := HT.out.ks t htm
      have HAL0 : Hid (∀ W, Below wr.heap.size wr W → Calls Try.prog 41 #[.slice o1 t.ks.length c1, .slice o2 t.ks.length c2] W fun e w' => e = .returned (.bool true) ∧ Below W.heap.size W w') := fun W hW => by
        have hb := HBW.out.trans (hW.mono HBW.out.size)
        exact alike_yes _ _ t.ks rfl W (ownsRow_same hl1 (fun g hg => hb.block g (ownsRow_lt hl1 hg).2)) (ownsRow_same hl2 (fun g hg => hb.block g (ownsRow_lt hl2 hg).2)) (by omega)
      have HKB : Hid (Blk wr kb #[.slice (some ⟨bg, 0, none⟩) bn bc] 87) := HKB0.out
      obtain ⟨M, hM⟩ : ∃ y, y = t.ks.length := ⟨_, rfl⟩
      have HAL := HAL0
      rw [← hM] at HAL k0 k1
      clear htt htm hBr hrr hl1 hl2 e1 e2 hks HAL0 HKB0 hM
      go_wp2_with fail
      first | rename_i KK hKK | skip
      try rw [show ∀ a : Act, a.put none undef = a from fun _ => rfl]
      refine wp_region_mix (fun wq => Blk wq kb #[.slice (some ⟨bg, 0, none⟩) bn bc] 87 ∧ wq.cell? ⟨bg, i * 3, none⟩ = some (.slice o1 M c1) ∧ wq.cell? ⟨bg, i * 3 + 1, none⟩ = some (.slice o2 M c2)) (fun i => i == 16 || i == 99) 99 (by kernel_rfl) rfl (by kernel_rfl) (by kernel_rfl) (by kernel_rfl) ?_
      refine withFrP (N := 143) rfl ?_
      intro f0 F0 hff
      have ee0 : f0 0 = Value.pointer (some ⟨kb, 0, none⟩) := hff 0
      have ee3 : f0 3 = Value.int .i64 (i : Nat) := hff 3
      clear hff
      have HCC : (fun wq => Blk wq kb #[.slice (some ⟨bg, 0, none⟩) bn bc] 87 ∧ wq.cell? ⟨bg, i * 3, none⟩ = some (.slice o1 M c1) ∧ wq.cell? ⟨bg, i * 3 + 1, none⟩ = some (.slice o2 M c2)) (({ wr with drawn := wr.drawn + 1 } : World)) := ⟨HKB.out, k0, k1⟩
      refine lyp F0 rfl HCC rfl (by omega) (wanted_none rfl) (v := Value.pointer (some ⟨kb, 0, none⟩)) (fun wr hwr => by simp only [execOp, (F0.eval 0 (by omega)).trans (show _ = Value.pointer (some ⟨kb, 0, none⟩) from by simp [upd, ee0, ee3])]; first | rfl | simp [go_sem]) fun F1 => ?_
      refine lyp F1 rfl HCC rfl (by omega) (wanted_none rfl) (v := Value.pointer (some ⟨kb, 0, none⟩)) (fun wr hwr => by simp only [execOp, (F1.eval 19 (by omega)).trans (show _ = Value.pointer (some ⟨kb, 0, none⟩) from by simp [upd, ee0, ee3])]; simp [go_sem]) fun F2 => ?_
      refine lyp F2 rfl HCC rfl (by omega) (wanted_none rfl) (v := Value.pointer (some ⟨kb, 0, none⟩)) (fun wr hwr => by simp only [execOp, (F2.eval 20 (by omega)).trans (show _ = Value.pointer (some ⟨kb, 0, none⟩) from by simp [upd, ee0, ee3])]; simp [go_sem]) fun F3 => ?_
      refine lyp F3 rfl HCC rfl (by omega) (wanted_none rfl) (v := Value.slice (some ⟨bg, 0, none⟩) bn bc) (fun wr hwr => by simp only [execOp, (F3.eval 21 (by omega)).trans (show _ = Value.pointer (some ⟨kb, 0, none⟩) from by simp [upd, ee0, ee3])]; simp [go_sem, show wr.cell? ⟨kb, 0, none⟩ = some (.slice (some ⟨bg, 0, none⟩) bn bc) from hwr.1.cell 0]) fun F4 => ?_
      refine lyp F4 rfl HCC rfl (by omega) (wanted_none rfl) (v := Value.int .i64 (i : Nat)) (fun wr hwr => by simp only [execOp, (F4.eval 3 (by omega)).trans (show _ = Value.int .i64 (i : Nat) from by simp [upd, ee0, ee3])]; first | rfl | simp [go_sem]) fun F5 => ?_
      refine lyp F5 rfl HCC rfl (by omega) (wanted_none rfl) (v := Value.pointer (some ⟨bg, i * 3, none⟩)) (fun wr hwr => by simp only [execOp, (F5.eval 22 (by omega)).trans (show _ = Value.slice (some ⟨bg, 0, none⟩) bn bc from by simp [upd, ee0, ee3]), (F5.eval 23 (by omega)).trans (show _ = Value.int .i64 (i : Nat) from by simp [upd, ee0, ee3])]; simp only [Sem.run_bind, Sem.run_pure, Result.andThen_ok, idx_run 85 100 3 Try.underlying85 (by kernel_rfl) wr bg 0 bn bc i (by omega), Nat.zero_add]; try rfl) fun F6 => ?_
      refine lyp F6 rfl HCC rfl (by omega) (wanted_none rfl) (v := Value.pointer (some ⟨bg, i * 3, none⟩)) (fun wr hwr => by simp only [execOp, (F6.eval 24 (by omega)).trans (show _ = Value.pointer (some ⟨bg, i * 3, none⟩) from by simp [upd, ee0, ee3])]; simp [go_sem]) fun F7 => ?_
      refine lyp F7 rfl HCC rfl (by omega) (wanted_none rfl) (v := Value.slice o1 M c1) (fun wr hwr => by simp only [execOp, (F7.eval 25 (by omega)).trans (show _ = Value.pointer (some ⟨bg, i * 3, none⟩) from by simp [upd, ee0, ee3])]; simp [go_sem, hwr.2.1]) fun F8 => ?_
      refine lyp F8 rfl HCC rfl (by omega) (wanted_none rfl) (v := Value.pointer (some ⟨kb, 0, none⟩)) (fun wr hwr => by simp only [execOp, (F8.eval 0 (by omega)).trans (show _ = Value.pointer (some ⟨kb, 0, none⟩) from by simp [upd, ee0, ee3])]; first | rfl | simp [go_sem]) fun F9 => ?_
      refine lyp F9 rfl HCC rfl (by omega) (wanted_none rfl) (v := Value.pointer (some ⟨kb, 0, none⟩)) (fun wr hwr => by simp only [execOp, (F9.eval 27 (by omega)).trans (show _ = Value.pointer (some ⟨kb, 0, none⟩) from by simp [upd, ee0, ee3])]; simp [go_sem]) fun F10 => ?_
      refine lyp F10 rfl HCC rfl (by omega) (wanted_none rfl) (v := Value.pointer (some ⟨kb, 0, none⟩)) (fun wr hwr => by simp only [execOp, (F10.eval 28 (by omega)).trans (show _ = Value.pointer (some ⟨kb, 0, none⟩) from by simp [upd, ee0, ee3])]; simp [go_sem]) fun F11 => ?_
      refine lyp F11 rfl HCC rfl (by omega) (wanted_none rfl) (v := Value.slice (some ⟨bg, 0, none⟩) bn bc) (fun wr hwr => by simp only [execOp, (F11.eval 29 (by omega)).trans (show _ = Value.pointer (some ⟨kb, 0, none⟩) from by simp [upd, ee0, ee3])]; simp [go_sem, show wr.cell? ⟨kb, 0, none⟩ = some (.slice (some ⟨bg, 0, none⟩) bn bc) from hwr.1.cell 0]) fun F12 => ?_
      refine lyp F12 rfl HCC rfl (by omega) (wanted_none rfl) (v := Value.int .i64 (i : Nat)) (fun wr hwr => by simp only [execOp, (F12.eval 3 (by omega)).trans (show _ = Value.int .i64 (i : Nat) from by simp [upd, ee0, ee3])]; first | rfl | simp [go_sem]) fun F13 => ?_
      refine lyp F13 rfl HCC rfl (by omega) (wanted_none rfl) (v := Value.pointer (some ⟨bg, i * 3, none⟩)) (fun wr hwr => by simp only [execOp, (F13.eval 30 (by omega)).trans (show _ = Value.slice (some ⟨bg, 0, none⟩) bn bc from by simp [upd, ee0, ee3]), (F13.eval 31 (by omega)).trans (show _ = Value.int .i64 (i : Nat) from by simp [upd, ee0, ee3])]; simp only [Sem.run_bind, Sem.run_pure, Result.andThen_ok, idx_run 85 100 3 Try.underlying85 (by kernel_rfl) wr bg 0 bn bc i (by omega), Nat.zero_add]; try rfl) fun F14 => ?_
      refine lyp F14 rfl HCC rfl (by omega) (wanted_none rfl) (v := Value.pointer (some ⟨bg, i * 3 + 1, none⟩)) (fun wr hwr => by simp only [execOp, (F14.eval 32 (by omega)).trans (show _ = Value.pointer (some ⟨bg, i * 3, none⟩) from by simp [upd, ee0, ee3])]; simp [go_sem]) fun F15 => ?_
      refine lyp F15 rfl HCC rfl (by omega) (wanted_none rfl) (v := Value.slice o2 M c2) (fun wr hwr => by simp only [execOp, (F15.eval 33 (by omega)).trans (show _ = Value.pointer (some ⟨bg, i * 3 + 1, none⟩) from by simp [upd, ee0, ee3])]; simp [go_sem, hwr.2.2]) fun F16 => ?_
      refine lcp F16 rfl HCC rfl (by omega) (wanted_none rfl) (g := 41) (args := #[Value.slice o1 M c1, Value.slice o2 M c2]) (by simp only [execOp, resolve, invoke, List.map_toArray, List.map_cons, List.map_nil, (F16.eval 26 (by omega)).trans (show _ = Value.slice o1 M c1 from by simp [upd, ee0, ee3]), (F16.eval 34 (by omega)).trans (show _ = Value.slice o2 M c2 from by simp [upd, ee0, ee3])]; simp [go_sem, Act.eval]) (HAL.out (({ wr with drawn := wr.drawn + 1 } : World)) (Below.drew (Below.refl _ _))) ?_
      rintro e9 w3 ⟨rfl, hb3⟩
      refine ⟨_, rfl, fun F17 => ?_⟩
      have HC2 : (fun wq => Blk wq kb #[.slice (some ⟨bg, 0, none⟩) bn bc] 87 ∧ wq.cell? ⟨bg, i * 3, none⟩ = some (.slice o1 M c1) ∧ wq.cell? ⟨bg, i * 3 + 1, none⟩ = some (.slice o2 M c2)) w3 := ⟨HCC.1.below hb3 HCC.1.lt, cell_belowR hb3 HCC.2.1, cell_belowR hb3 HCC.2.2⟩
      refine lyp F17 rfl HC2 rfl (by omega) (wanted_none rfl) (v := Value.bool false) (fun wr hwr => by simp only [execOp, (F17.eval 35 (by omega)).trans (show _ = Value.bool true from by simp [upd, ee0, ee3])]; simp [go_sem, Act.eval]) fun F18 => ?_
      have HBN : Hid (Below w.heap.size w w3) := HBW.out.trans (((Below.drew (Below.refl wr.heap.size wr)).trans hb3).mono HBW.out.size)
      refine ⟨fun _ => HC2, ?_⟩
      first | refine hKK _ _ ?_ | skip
      clear F0 F1 F2 F3 F4 F5 F6 F7 F8 F9 F10 F11 F12 F13 F14 F15 F16 F17 F18 ee0 ee3 HCC HC2
      simp only [Act.put, List.setIfInBounds_toArray, List.set_cons_succ, List.set_cons_zero]
      clear hb3
      clear k0 k1
      go_wp2_with fail
      go_roundw
      case rel => exact ⟨i + 1, by omega, by go_num, HBN.out⟩
      case measure => simp [intOf]; omega
    · have HB2 : Hid (BK L0 kb (.slice bo bn bc) (ts.map TD.el) wr) := HB0.out.more HBW.out
      have HBL : Hid (Below L0 w wr) := HBW.out.mono hL
      clear HBW HB0 HW HK0 HKB0
      go_wp2_with fail
      go_loopw [4, 5] (fun s4 _ wr => ∃ (i : Nat) (A : List EL), i ≤ bn ∧ s4 = .int .i64 i ∧ A.length = i ∧ (∀ j x, A[j]? = some x → Marked K j x) ∧ BK L0 kb (.slice bo bn bc) (A ++ (ts.map TD.el).drop i) wr ∧ Below L0 w wr) (fun s4 _ _ => bn - (intOf s4).toNat)
      case atStart => exact ⟨0, [], Nat.zero_le _, rfl, rfl, fun j x hx => by simp at hx, by simpa using HB2.out, HBL.out⟩
      case round =>
        obtain ⟨i, A, hin, rfl, hAl, hAm, hB, hbw⟩ := hrel
        have HAL : Hid (A.length = i) := hAl
        have HAM : Hid (∀ j x, A[j]? = some x → Marked K j x) := hAm
        have HB : Hid (BK L0 kb (.slice bo bn bc) (A ++ (ts.map TD.el).drop i) wr) := hB
        have HBL2 : Hid (Below L0 w wr) := hbw
        have x0 : wr.cell? ⟨kb, 0, none⟩ = some (.slice bo bn bc) := hB.box.1.cell 0
        clear hAl hAm hbw HB2 HBL
        by_cases hlt : i < bn
        · obtain ⟨t, htt⟩ : ∃ t, ts[i]? = some t := ⟨_, List.getElem?_eq_getElem (by rw [← HBN0.out]; exact hlt)⟩
          obtain ⟨d, hd⟩ : ∃ d, d = TD.el t := ⟨_, rfl⟩
          have hdi : (ts.map TD.el)[i]? = some d := by rw [List.getElem?_map, htt, hd]; rfl
          have hdg : d.gr = none := by rw [hd]; rfl
          have hdk : d.cur.length ≤ K := by rw [hd]; exact HT.out.ks t (List.mem_of_getElem? htt)
          obtain ⟨D2, hD2⟩ : ∃ D2, D2 = (ts.map TD.el).drop (i + 1) := ⟨_, rfl⟩
          rw [drop_at hdi, ← hD2] at hB
          have HD2 : Hid (D2 = (ts.map TD.el).drop (i + 1)) := hD2
          obtain ⟨bg, hbg⟩ := hB.bg (by simp only [List.length_append, List.length_cons]; omega)
          subst hbg
          have hnm : wr.ownsRow L0 9 1 d.l d.cur.length (flatS d.cur) := by have h1 := hB.at; simp only [EL.ent, hdg] at h1; exact h1
          obtain ⟨o1, c1, e1, _⟩ := own_slice hnm
          obtain ⟨M, hM⟩ : ∃ y, y = d.cur.length := ⟨_, rfl⟩
          rw [← hM] at e1 hdk
          have HMM0 : Hid (M = d.cur.length) := hM
          have HDL : Hid (d.l = .slice o1 M c1 ∧ d.gr = none) := ⟨e1, hdg⟩
          have HI0 : Hid (BK L0 kb (.slice (some ⟨bg, 0, none⟩) bn bc) (A ++ { d with cur := List.replicate 0 (mkS i) ++ d.cur.drop 0 } :: D2) wr) := show BK L0 kb (.slice (some ⟨bg, 0, none⟩) bn bc) (A ++ { d with cur := List.replicate 0 (mkS i) ++ d.cur.drop 0 } :: D2) wr from by simpa using hB
          clear htt hd hdi hdg hD2 hnm e1 hM hB HB
          go_wp2_with fail
          go_loopw [5] (fun s5 wr => ∃ k : Nat, k ≤ M ∧ s5 = .int .i64 k ∧ BK L0 kb (.slice (some ⟨bg, 0, none⟩) bn bc) (A ++ { d with cur := List.replicate k (mkS i) ++ d.cur.drop k } :: D2) wr ∧ Below L0 w wr) (fun s5 _ => M - (intOf s5).toNat)
          case atStart => exact ⟨0, Nat.zero_le _, rfl, HI0.out, HBL2.out⟩
          case round =>
            obtain ⟨k, hkM0, rfl, hB, hbw⟩ := hrel
            have HH : Hid (BK L0 kb (.slice (some ⟨bg, 0, none⟩) bn bc) (A ++ { d with cur := List.replicate k (mkS i) ++ d.cur.drop k } :: D2) wr) := hB
            have HBW : Hid (Below L0 w wr) := hbw
            have HLW : Hid (L0 ≤ wr.heap.size) := show L0 ≤ wr.heap.size from Nat.le_trans hL hbw.size
            have y0 : wr.cell? ⟨kb, 0, none⟩ = some (.slice (some ⟨bg, 0, none⟩) bn bc) := hB.box.1.cell 0
            have HKB : Hid (Blk wr kb #[.slice (some ⟨bg, 0, none⟩) bn bc] 87) := hB.box.1
            have kk := (hB.cells (i := i) (d := { d with cur := List.replicate k (mkS i) ++ d.cur.drop k }) (by rw [← HAL.out]; exact mid_at A _ D2)).1
            simp only [HDL.out.1] at kk
            clear hbw HI0 HBL2 x0
            by_cases hkM : k < M
            · have hml := mix_len d.cur (mkS i) k (by rw [← HMM0.out]; omega)
              have hnm : wr.ownsRow L0 9 1 d.l (List.replicate k (mkS i) ++ d.cur.drop k).length (flatS (List.replicate k (mkS i) ++ d.cur.drop k)) := by have h1 := hB.at; simp only [EL.ent, HDL.out.2] at h1; exact h1
              rw [hml, ← HMM0.out, HDL.out.1] at hnm
              obtain ⟨g1, gc1, hg1, _, _, _, _⟩ := own_at' hnm (by omega)
              cases hg1
              have HMM : Hid (d.l = .slice (some ⟨g1, 0, none⟩) M c1 ∧ d.gr = none ∧ M = (List.replicate k (mkS i) ++ d.cur.drop k).length) := ⟨HDL.out.1, HDL.out.2, by rw [hml]; exact HMM0.out⟩
              have k0 := kk
              clear hB kk hml hnm
              go_wp2_with fail
              first | rename_i KK hKK | skip
              try rw [show ∀ a : Act, a.put none undef = a from fun _ => rfl]
              refine wp_region_mix (fun wq => Blk wq kb #[.slice (some ⟨bg, 0, none⟩) bn bc] 87 ∧ wq.cell? ⟨bg, i * 3, none⟩ = some (.slice (some ⟨g1, 0, none⟩) M c1)) (fun i => i == 10 || i == 12) 12 (by kernel_rfl) rfl (by kernel_rfl) (by kernel_rfl) (by kernel_rfl) ?_
              refine withFrP (N := 143) rfl ?_
              intro f0 F0 hff
              have ee0 : f0 0 = Value.pointer (some ⟨kb, 0, none⟩) := hff 0
              have ee4 : f0 4 = Value.int .i64 (i : Nat) := hff 4
              have ee5 : f0 5 = Value.int .i64 (k : Nat) := hff 5
              clear hff
              have HCC : (fun wq => Blk wq kb #[.slice (some ⟨bg, 0, none⟩) bn bc] 87 ∧ wq.cell? ⟨bg, i * 3, none⟩ = some (.slice (some ⟨g1, 0, none⟩) M c1)) (({ wr with drawn := wr.drawn + 1 } : World)) := ⟨HKB.out, k0⟩
              refine lyp F0 rfl HCC rfl (by omega) (wanted_none rfl) (v := Value.pointer (some ⟨kb, 0, none⟩)) (fun wr hwr => by simp only [execOp, (F0.eval 0 (by omega)).trans (show _ = Value.pointer (some ⟨kb, 0, none⟩) from by simp [upd, ee0, ee4, ee5])]; first | rfl | simp [go_sem]) fun F1 => ?_
              refine lyp F1 rfl HCC rfl (by omega) (wanted_none rfl) (v := Value.pointer (some ⟨kb, 0, none⟩)) (fun wr hwr => by simp only [execOp, (F1.eval 59 (by omega)).trans (show _ = Value.pointer (some ⟨kb, 0, none⟩) from by simp [upd, ee0, ee4, ee5])]; simp [go_sem]) fun F2 => ?_
              refine lyp F2 rfl HCC rfl (by omega) (wanted_none rfl) (v := Value.pointer (some ⟨kb, 0, none⟩)) (fun wr hwr => by simp only [execOp, (F2.eval 60 (by omega)).trans (show _ = Value.pointer (some ⟨kb, 0, none⟩) from by simp [upd, ee0, ee4, ee5])]; simp [go_sem]) fun F3 => ?_
              refine lyp F3 rfl HCC rfl (by omega) (wanted_none rfl) (v := Value.slice (some ⟨bg, 0, none⟩) bn bc) (fun wr hwr => by simp only [execOp, (F3.eval 61 (by omega)).trans (show _ = Value.pointer (some ⟨kb, 0, none⟩) from by simp [upd, ee0, ee4, ee5])]; simp [go_sem, show wr.cell? ⟨kb, 0, none⟩ = some (.slice (some ⟨bg, 0, none⟩) bn bc) from hwr.1.cell 0]) fun F4 => ?_
              refine lyp F4 rfl HCC rfl (by omega) (wanted_none rfl) (v := Value.int .i64 (i : Nat)) (fun wr hwr => by simp only [execOp, (F4.eval 4 (by omega)).trans (show _ = Value.int .i64 (i : Nat) from by simp [upd, ee0, ee4, ee5])]; first | rfl | simp [go_sem]) fun F5 => ?_
              refine lyp F5 rfl HCC rfl (by omega) (wanted_none rfl) (v := Value.pointer (some ⟨bg, i * 3, none⟩)) (fun wr hwr => by simp only [execOp, (F5.eval 62 (by omega)).trans (show _ = Value.slice (some ⟨bg, 0, none⟩) bn bc from by simp [upd, ee0, ee4, ee5]), (F5.eval 63 (by omega)).trans (show _ = Value.int .i64 (i : Nat) from by simp [upd, ee0, ee4, ee5])]; simp only [Sem.run_bind, Sem.run_pure, Result.andThen_ok, idx_run 85 100 3 Try.underlying85 (by kernel_rfl) wr bg 0 bn bc i (by omega), Nat.zero_add]; try rfl) fun F6 => ?_
              refine lyp F6 rfl HCC rfl (by omega) (wanted_none rfl) (v := Value.pointer (some ⟨bg, i * 3, none⟩)) (fun wr hwr => by simp only [execOp, (F6.eval 64 (by omega)).trans (show _ = Value.pointer (some ⟨bg, i * 3, none⟩) from by simp [upd, ee0, ee4, ee5])]; simp [go_sem]) fun F7 => ?_
              refine lyp F7 rfl HCC rfl (by omega) (wanted_none rfl) (v := Value.slice (some ⟨g1, 0, none⟩) M c1) (fun wr hwr => by simp only [execOp, (F7.eval 65 (by omega)).trans (show _ = Value.pointer (some ⟨bg, i * 3, none⟩) from by simp [upd, ee0, ee4, ee5])]; simp [go_sem, hwr.2]) fun F8 => ?_
              refine lyp F8 rfl HCC rfl (by omega) (wanted_none rfl) (v := Value.int .i64 (k : Nat)) (fun wr hwr => by simp only [execOp, (F8.eval 5 (by omega)).trans (show _ = Value.int .i64 (k : Nat) from by simp [upd, ee0, ee4, ee5])]; first | rfl | simp [go_sem]) fun F9 => ?_
              refine lyp F9 rfl HCC rfl (by omega) (wanted_none rfl) (v := Value.int .i64 (i : Nat)) (fun wr hwr => by simp only [execOp, (F9.eval 4 (by omega)).trans (show _ = Value.int .i64 (i : Nat) from by simp [upd, ee0, ee4, ee5])]; first | rfl | simp [go_sem]) fun F10 => ?_
              refine lcp F10 rfl HCC rfl (by omega) (wanted_none rfl) (g := 42) (args := #[Value.int .i64 (i : Nat)]) (by simp only [execOp, resolve, invoke, List.map_toArray, List.map_cons, List.map_nil, (F10.eval 68 (by omega)).trans (show _ = Value.int .i64 (i : Nat) from by simp [upd, ee0, ee4, ee5])]; simp [go_sem, Act.eval]) (mark_any i (({ wr with drawn := wr.drawn + 1 } : World)) (by omega)) ?_
              rintro e9 w3 ⟨rfl, hb3⟩
              refine ⟨_, rfl, fun F11 => ?_⟩
              have HC2 : (fun wq => Blk wq kb #[.slice (some ⟨bg, 0, none⟩) bn bc] 87 ∧ wq.cell? ⟨bg, i * 3, none⟩ = some (.slice (some ⟨g1, 0, none⟩) M c1)) w3 := ⟨HCC.1.below hb3 HCC.1.lt, cell_belowR hb3 HCC.2⟩
              have hbX3 : Below wr.heap.size wr w3 := (Below.drew (Below.refl wr.heap.size wr)).trans hb3
              obtain ⟨hN1, hN2, hN3, u9, hN4⟩ := el_mark (HH.out.more hbX3) (Nat.le_trans HLW.out hbX3.size) HMM.out hkM (mkS i)
              refine lyp F11 rfl HC2 rfl (by omega) (wanted_none rfl) (v := Value.pointer (some ⟨g1, k, none⟩)) (fun wr hwr => by simp only [execOp, (F11.eval 66 (by omega)).trans (show _ = Value.slice (some ⟨g1, 0, none⟩) M c1 from by simp [upd, ee0, ee4, ee5]), (F11.eval 67 (by omega)).trans (show _ = Value.int .i64 (k : Nat) from by simp [upd, ee0, ee4, ee5])]; simp only [Sem.run_bind, Sem.run_pure, Result.andThen_ok, idx_run 39 9 1 Try.underlying39 (by kernel_rfl) wr g1 0 M c1 k (by omega), Nat.zero_add, Nat.mul_one]; try rfl) fun F12 => ?_
              refine lst rfl HC2 rfl (wanted_none rfl) (w1 := w3.setCell ⟨g1, k, none⟩ (.string ⟨(mkS i).toArray⟩)) (by simp only [execOp, (F12.eval 70 (by omega)).trans (show _ = Value.pointer (some ⟨g1, k, none⟩) from by simp [upd, ee0, ee4, ee5]), (F12.eval 69 (by omega)).trans (show _ = Value.string ⟨(mkS i).toArray⟩ from by simp [upd, ee0, ee4, ee5])]; simp [go_sem, hN3, hN4]) ?_
              have HNX : Hid (BK L0 kb (.slice (some ⟨bg, 0, none⟩) bn bc) (A ++ { d with cur := List.replicate (k + 1) (mkS i) ++ d.cur.drop (k + 1) } :: D2) (w3.setCell ⟨g1, k, none⟩ (.string ⟨(mkS i).toArray⟩))) := by have h9 := hN1; rw [set_mix d.cur (mkS i) k (by rw [← HMM0.out]; exact hkM)] at h9; exact h9
              have HBN : Hid (Below L0 w (w3.setCell ⟨g1, k, none⟩ (.string ⟨(mkS i).toArray⟩))) := (HBW.out.trans (hbX3.mono HLW.out)).trans hN2
              refine ⟨(fun h => absurd h (by decide)), ?_⟩
              first | refine hKK _ _ ?_ | skip
              clear F0 F1 F2 F3 F4 F5 F6 F7 F8 F9 F10 F11 F12 ee0 ee4 ee5 HCC HC2
              simp only [Act.put, List.setIfInBounds_toArray, List.set_cons_succ, List.set_cons_zero]
              clear hb3 hbX3 hN1 hN2 hN3 hN4
              clear k0 y0
              go_wp2_with fail
              go_roundw
              case rel => exact ⟨k + 1, by omega, by go_num, HNX.out, HBN.out⟩
              case measure => simp [intOf]; omega
            · have hke : k = M := by omega
              have HFX : Hid (BK L0 kb (.slice (some ⟨bg, 0, none⟩) bn bc) ((A ++ [{ d with cur := List.replicate M (mkS i) }]) ++ (ts.map TD.el).drop (i + 1)) wr) := show BK L0 kb (.slice (some ⟨bg, 0, none⟩) bn bc) ((A ++ [{ d with cur := List.replicate M (mkS i) }]) ++ (ts.map TD.el).drop (i + 1)) wr from by
                have h1 := HH.out
                rw [hke, List.drop_of_length_le (by rw [← HMM0.out]; exact Nat.le_refl _), List.append_nil] at h1
                rw [← HD2.out, List.append_assoc]
                exact h1
              have HAM2 : Hid (∀ j x, (A ++ [{ d with cur := List.replicate M (mkS i) }])[j]? = some x → Marked K j x) := snoc_at HAM.out (show Marked K A.length { d with cur := List.replicate M (mkS i) } from ⟨HDL.out.2, M, hdk, by rw [HAL.out]⟩)
              clear hB hke HH
              go_wp2_with fail
              go_roundw
              case rel => exact ⟨i + 1, _, by omega, by go_num, by rw [List.length_append, HAL.out]; rfl, HAM2.out, HFX.out, HBW.out⟩
              case measure => simp [intOf]; omega
        · have hie : i = bn := by omega
          have HBA : Hid (BK L0 kb (.slice bo bn bc) A wr) := show BK L0 kb (.slice bo bn bc) A wr from by have h1 := HB.out; rw [List.drop_of_length_le (by rw [List.length_map, ← HBN0.out]; omega), List.append_nil] at h1; exact h1
          have HAN : Hid (A.length = bn) := HAL.out.trans hie
          clear hB HB HAL hie
          go_wp2_with fail
          go_loopw [6, 7, 8] (fun s6 _ _ wr => ∃ (i : Nat) (G : List EL), i ≤ bn ∧ s6 = .int .i64 i ∧ G.length = i ∧ (∀ j x, G[j]? = some x → Grown K j x) ∧ BK L0 kb (.slice bo bn bc) (G ++ A.drop i) wr ∧ Below L0 w wr) (fun s6 _ _ _ => bn - (intOf s6).toNat)
          case atStart => exact ⟨0, [], Nat.zero_le _, rfl, rfl, fun j x hx => by simp at hx, by simpa using HBA.out, HBL2.out⟩
          case round =>
            obtain ⟨i, G, hin, rfl, hGl, hGm, hB, hbw⟩ := hrel
            have HGL : Hid (G.length = i) := hGl
            have HGM : Hid (∀ j x, G[j]? = some x → Grown K j x) := hGm
            have HB : Hid (BK L0 kb (.slice bo bn bc) (G ++ A.drop i) wr) := hB
            have HBL3 : Hid (Below L0 w wr) := hbw
            have z0 : wr.cell? ⟨kb, 0, none⟩ = some (.slice bo bn bc) := hB.box.1.cell 0
            clear hGl hGm HBA HBL2 x0
            by_cases hlt : i < bn
            · obtain ⟨d, hdi⟩ : ∃ d, A[i]? = some d := ⟨_, List.getElem?_eq_getElem (by rw [HAN.out]; exact hlt)⟩
              obtain ⟨hdg, n, hnK, hdc⟩ := HAM.out i d hdi
              obtain ⟨D2, hD2⟩ : ∃ D2, D2 = A.drop (i + 1) := ⟨_, rfl⟩
              have HD2 : Hid (D2 = A.drop (i + 1)) := hD2
              rw [drop_at hdi, ← hD2] at hB
              have hbl : bn = (G ++ d :: D2).length := by rw [List.length_append, List.length_cons, HGL.out, hD2, List.length_drop, HAN.out]; omega
              obtain ⟨bg, hbg⟩ := hB.bg (by simp only [List.length_append, List.length_cons]; omega)
              subst hbg
              have hnm : wr.ownsRow L0 9 1 d.l d.cur.length (flatS d.cur) := by have h1 := hB.at; simp only [EL.ent, hdg] at h1; exact h1
              obtain ⟨o1, c1, e1, _⟩ := own_slice hnm
              rw [hdc, List.length_replicate] at e1
              obtain ⟨k0, _, k2⟩ := hB.cells (i := i) (d := d) (by rw [← HGL.out]; exact mid_at G _ D2)
              rw [e1] at k0
              obtain ⟨a1, a2, a3⟩ := el_start (n := 0) (lc := 0) (lo := none) hB (Nat.le_trans hL hbw.size) hbl hdg
              rw [HGL.out] at a1 a2 a3
              obtain ⟨U, hU⟩ : ∃ U, U = wr.setCell ⟨bg, i * 3 + 2, none⟩ (.slice o1 n c1) := ⟨_, rfl⟩
              have hU' : U = wr.setCell ⟨bg, i * 3 + 2, none⟩ d.l := by rw [hU, e1]
              rw [← hU'] at a1 a2
              have hdd : ({ d with more := .slice o1 (n + 0) c1, gr := some (List.replicate (n + 0) (mkS i)) } : EL) = { d with more := d.l, gr := some d.cur } := by simp only [Nat.add_zero, ← hdc, ← e1]
              have HI0 : Hid (BK L0 kb (.slice (some ⟨bg, 0, none⟩) bn bc) (G ++ { d with more := .slice o1 (n + 0) c1, gr := some (List.replicate (n + 0) (mkS i)) } :: D2) U) := show BK L0 kb (.slice (some ⟨bg, 0, none⟩) bn bc) (G ++ { d with more := .slice o1 (n + 0) c1, gr := some (List.replicate (n + 0) (mkS i)) } :: D2) U from by rw [hdd]; exact a1
              have HBU : Hid (Below L0 w U) := hbw.trans a2
              have HDG : Hid (d.cur = List.replicate n (mkS i)) := hdc
              have HBL9 : Hid (∀ e : EL, bn = (G ++ e :: D2).length) := fun e => by rw [hbl]; simp
              clear hB HB hbw hD2 hbl hnm e1 hdg hdi a1 a2 HBL3 hdc hU' hdd
              go_upto_region 18 with fail
              rw [← hU]
              clear hU k0 k2 a3 z0
              go_wp2_with fail
              go_loopw [8] (fun s8 wr => ∃ (j : Nat) (xo : Option Addr) (xc : Nat), j ≤ 100 ∧ s8 = .int .i64 j ∧ BK L0 kb (.slice (some ⟨bg, 0, none⟩) bn bc) (G ++ { d with more := .slice xo (n + j) xc, gr := some (List.replicate (n + j) (mkS i)) } :: D2) wr ∧ Below L0 w wr) (fun s8 _ => 100 - (intOf s8).toNat)
              case atStart => exact ⟨0, o1, c1, Nat.zero_le _, rfl, HI0.out, HBU.out⟩
              case round =>
                obtain ⟨j, xo, xc, hj, rfl, hB, hbw⟩ := hrel
                have HH0 : Hid (BK L0 kb (.slice (some ⟨bg, 0, none⟩) bn bc) (G ++ { d with more := .slice xo (n + j) xc, gr := some (List.replicate (n + j) (mkS i)) } :: D2) wr) := hB
                have HBW : Hid (Below L0 w wr) := hbw
                have HLW : Hid (L0 ≤ wr.heap.size) := show L0 ≤ wr.heap.size from Nat.le_trans hL hbw.size
                clear hbw HI0 HBU
                by_cases hj2 : j < 100
                · obtain ⟨m, hm⟩ : ∃ m, m = n + j := ⟨_, rfl⟩
                  obtain ⟨ys, hys⟩ : ∃ ys, ys = List.replicate (n + j) (mkS i) := ⟨_, rfl⟩
                  have k2 := (hB.cells (i := i) (by rw [← HGL.out]; exact mid_at G _ D2)).2.2
                  simp only at k2
                  rw [← hm] at k2
                  have HH : Hid (BK L0 kb (.slice (some ⟨bg, 0, none⟩) bn bc) (G ++ { d with more := .slice xo m xc, gr := some ys } :: D2) wr) := show BK L0 kb (.slice (some ⟨bg, 0, none⟩) bn bc) (G ++ { d with more := .slice xo m xc, gr := some ys } :: D2) wr from by rw [hm, hys]; exact hB
                  have HLA : Hid (G.length = i ∧ bn = (G ++ { d with more := .slice xo m xc, gr := some ys } :: D2).length ∧ m = ys.length) := ⟨HGL.out, HBL9.out _, by rw [hys, hm]; simp⟩
                  have hmK : m ≤ 100000 := by omega
                  have HYS : Hid (ys ++ [mkS i] = List.replicate (n + (j + 1)) (mkS i) ∧ m + 1 = n + (j + 1)) := ⟨by rw [hys, ← Nat.add_assoc, List.replicate_succ'], by omega⟩
                  clear hB hm hys HH0
                  go_wp2_with fail
                  first | rename_i KK hKK | skip
                  try rw [show ∀ a : Act, a.put none undef = a from fun _ => rfl]
                  refine wp_region_mix (fun wq => wq.cell? ⟨bg, i * 3 + 2, none⟩ = some (.slice xo m xc)) (fun i => i == 6 || i == 7 || i == 8 || i == 11) 11 (by kernel_rfl) rfl (by kernel_rfl) (by kernel_rfl) (by kernel_rfl) ?_
                  refine withFrP (N := 143) rfl ?_
                  intro f0 F0 hff
                  have ee7 : f0 7 = Value.pointer (some ⟨bg, i * 3, none⟩) := hff 7
                  have ee6 : f0 6 = Value.int .i64 (i : Nat) := hff 6
                  clear hff
                  have HCC : (fun wq => wq.cell? ⟨bg, i * 3 + 2, none⟩ = some (.slice xo m xc)) (({ wr with drawn := wr.drawn + 1 } : World)) := k2
                  refine lyp F0 rfl HCC rfl (by omega) (wanted_none rfl) (v := Value.pointer (some ⟨bg, i * 3, none⟩)) (fun wr hwr => by simp only [execOp, (F0.eval 7 (by omega)).trans (show _ = Value.pointer (some ⟨bg, i * 3, none⟩) from by simp [upd, ee7, ee6])]; first | rfl | simp [go_sem]) fun F1 => ?_
                  refine lyp F1 rfl HCC rfl (by omega) (wanted_none rfl) (v := Value.pointer (some ⟨bg, i * 3, none⟩)) (fun wr hwr => by simp only [execOp, (F1.eval 7 (by omega)).trans (show _ = Value.pointer (some ⟨bg, i * 3, none⟩) from by simp [upd, ee7, ee6])]; first | rfl | simp [go_sem]) fun F2 => ?_
                  refine lyp F2 rfl HCC rfl (by omega) (wanted_none rfl) (v := Value.pointer (some ⟨bg, i * 3, none⟩)) (fun wr hwr => by simp only [execOp, (F2.eval 98 (by omega)).trans (show _ = Value.pointer (some ⟨bg, i * 3, none⟩) from by simp [upd, ee7, ee6])]; simp [go_sem]) fun F3 => ?_
                  refine lyp F3 rfl HCC rfl (by omega) (wanted_none rfl) (v := Value.pointer (some ⟨bg, i * 3 + 2, none⟩)) (fun wr hwr => by simp only [execOp, (F3.eval 99 (by omega)).trans (show _ = Value.pointer (some ⟨bg, i * 3, none⟩) from by simp [upd, ee7, ee6])]; simp [go_sem]) fun F4 => ?_
                  refine lyp F4 rfl HCC rfl (by omega) (wanted_none rfl) (v := Value.slice xo m xc) (fun wr hwr => by simp only [execOp, (F4.eval 100 (by omega)).trans (show _ = Value.pointer (some ⟨bg, i * 3 + 2, none⟩) from by simp [upd, ee7, ee6])]; simp [go_sem, hwr]) fun F5 => ?_
                  refine lyp F5 rfl HCC rfl (by omega) (wanted_none rfl) (v := Value.int .i64 (i : Nat)) (fun wr hwr => by simp only [execOp, (F5.eval 6 (by omega)).trans (show _ = Value.int .i64 (i : Nat) from by simp [upd, ee7, ee6])]; first | rfl | simp [go_sem]) fun F6 => ?_
                  refine lcp F6 rfl HCC rfl (by omega) (wanted_none rfl) (g := 42) (args := #[Value.int .i64 (i : Nat)]) (by simp only [execOp, resolve, invoke, List.map_toArray, List.map_cons, List.map_nil, (F6.eval 102 (by omega)).trans (show _ = Value.int .i64 (i : Nat) from by simp [upd, ee7, ee6])]; simp [go_sem, Act.eval]) (mark_any i (({ wr with drawn := wr.drawn + 1 } : World)) (by omega)) ?_
                  rintro e9 w3 ⟨rfl, hb3⟩
                  refine ⟨_, rfl, fun F7 => ?_⟩
                  have hbX3 : Below wr.heap.size wr w3 := (Below.drew (Below.refl wr.heap.size wr)).trans hb3
                  have HC2 : (fun wq => wq.cell? ⟨bg, i * 3 + 2, none⟩ = some (.slice xo m xc)) w3 := cell_belowR hbX3 k2
                  obtain ⟨x5, c5, w5, hrun, hk5, hf5, hH5, hb5⟩ := el_grow (HH.out.more hbX3) (Nat.le_trans HLW.out hbX3.size) ⟨HLA.out.1, HLA.out.2.1, rfl, rfl, HLA.out.2.2⟩ (by omega) (mkS i)
                  have HC3 : (fun wq => wq.cell? ⟨bg, i * 3 + 2, none⟩ = some (.slice xo m xc)) (w3.alloc (.cells #[.string ⟨(mkS i).toArray⟩] 9)) := cell_belowR ((Below.refl _ _).alloc (Nat.le_refl _) _) HC2
                  have HC5 : (fun wq => wq.cell? ⟨bg, i * 3 + 2, none⟩ = some (.slice xo m xc)) w5 := hk5
                  refine lep F7 rfl HC2 rfl (by omega) (wanted_none rfl) (v := Value.slice (some ⟨w3.heap.size, 0, none⟩) 1 1) (w1 := w3.alloc (.cells #[.string ⟨(mkS i).toArray⟩] 9)) (by simp only [execOp, List.map_toArray, List.map_cons, List.map_nil, (F7.eval 103 (by omega)).trans (show _ = Value.string ⟨(mkS i).toArray⟩ from by simp [upd, ee7, ee6])]; simp [go_sem]) fun F8 => ?_
                  refine lep F8 rfl HC3 rfl (by omega) (wanted_none rfl) (v := Value.slice x5 (m + 1) c5) (w1 := w5) (by simp only [execOp, resolve, invoke, builtin, List.map_toArray, List.map_cons, List.map_nil, (F8.eval 101 (by omega)).trans (show _ = Value.slice xo m xc from by simp [upd, ee7, ee6]), (F8.eval 104 (by omega)).trans (show _ = Value.slice (some ⟨w3.heap.size, 0, none⟩) 1 1 from by simp [upd, ee7, ee6])]; simp only [Sem.run_bind, Sem.run_pure, Result.andThen_ok, show _ = _ from hrun _]; try rfl) fun F9 => ?_
                  refine lyp F9 rfl HC5 rfl (by omega) (wanted_none rfl) (v := Value.pointer (some ⟨bg, i * 3, none⟩)) (fun wr hwr => by simp only [execOp, (F9.eval 97 (by omega)).trans (show _ = Value.pointer (some ⟨bg, i * 3, none⟩) from by simp [upd, ee7, ee6])]; simp [go_sem]) fun F10 => ?_
                  refine lyp F10 rfl HC5 rfl (by omega) (wanted_none rfl) (v := Value.pointer (some ⟨bg, i * 3 + 2, none⟩)) (fun wr hwr => by simp only [execOp, (F10.eval 106 (by omega)).trans (show _ = Value.pointer (some ⟨bg, i * 3, none⟩) from by simp [upd, ee7, ee6])]; simp [go_sem]) fun F11 => ?_
                  refine lst rfl HC5 rfl (wanted_none rfl) (w1 := w5.setCell ⟨bg, i * 3 + 2, none⟩ (.slice x5 (m + 1) c5)) (by simp only [execOp, (F11.eval 107 (by omega)).trans (show _ = Value.pointer (some ⟨bg, i * 3 + 2, none⟩) from by simp [upd, ee7, ee6]), (F11.eval 105 (by omega)).trans (show _ = Value.slice x5 (m + 1) c5 from by simp [upd, ee7, ee6])]; simp [go_sem, show w5.cell? ⟨bg, i * 3 + 2, none⟩ = some (.slice xo m xc) from HC5, hf5]) ?_
                  have HNX : Hid (BK L0 kb (.slice (some ⟨bg, 0, none⟩) bn bc) (G ++ { d with more := .slice x5 (m + 1) c5, gr := some (ys ++ [mkS i]) } :: D2) (w5.setCell ⟨bg, i * 3 + 2, none⟩ (.slice x5 (m + 1) c5))) := hH5
                  have HBN : Hid (Below L0 w (w5.setCell ⟨bg, i * 3 + 2, none⟩ (.slice x5 (m + 1) c5))) := (HBW.out.trans (hbX3.mono HLW.out)).trans hb5
                  refine ⟨(fun h => absurd h (by decide)), ?_⟩
                  first | refine hKK _ _ ?_ | skip
                  clear F0 F1 F2 F3 F4 F5 F6 F7 F8 F9 F10 F11 ee7 ee6 HCC HC2 HC3 HC5
                  simp only [Act.put, List.setIfInBounds_toArray, List.set_cons_succ, List.set_cons_zero]
                  clear hb3 hbX3 hrun hk5 hf5 hH5 hb5
                  rw [HYS.out.1, HYS.out.2] at HNX
                  clear k2
                  go_wp2_with fail
                  go_roundw
                  case rel => exact ⟨j + 1, x5, c5, by omega, by go_num, by first | exact HNX.out | (have h9 := HNX.out; rw [HYS.out.2]; exact h9), by first | exact HBN.out | (have h9 := HBN.out; exact h9)⟩
                  case measure => simp [intOf]; omega
                · have hj3 : j = 100 := by omega
                  subst hj3
                  have HFX : Hid (BK L0 kb (.slice (some ⟨bg, 0, none⟩) bn bc) ((G ++ [{ d with more := .slice xo (n + 100) xc, gr := some (List.replicate (n + 100) (mkS i)) }]) ++ A.drop (i + 1)) wr) := show BK L0 kb (.slice (some ⟨bg, 0, none⟩) bn bc) ((G ++ [{ d with more := .slice xo (n + 100) xc, gr := some (List.replicate (n + 100) (mkS i)) }]) ++ A.drop (i + 1)) wr from by rw [← HD2.out, List.append_assoc]; exact hB
                  have HGM2 : Hid (∀ j x, (G ++ [{ d with more := .slice xo (n + 100) xc, gr := some (List.replicate (n + 100) (mkS i)) }])[j]? = some x → Grown K j x) := snoc_at HGM.out (show Grown K G.length { d with more := .slice xo (n + 100) xc, gr := some (List.replicate (n + 100) (mkS i)) } from ⟨n, hnK, by rw [HGL.out]; exact HDG.out, by rw [HGL.out]⟩)
                  clear hB HH0
                  go_wp2_with fail
                  go_roundw
                  case rel => exact ⟨i + 1, _, by omega, by go_num, by rw [List.length_append, HGL.out]; rfl, HGM2.out, HFX.out, HBW.out⟩
                  case measure => simp [intOf]; omega
            · have hie : i = bn := by omega
              obtain ⟨w2, hw2⟩ : ∃ y, y = wr := ⟨_, rfl⟩
              have HBG : Hid (BK L0 kb (.slice bo bn bc) G w2) := show BK L0 kb (.slice bo bn bc) G w2 from by rw [hw2]; have h1 := HB.out; rw [List.drop_of_length_le (by rw [HAN.out]; omega), List.append_nil] at h1; exact h1
              have HGN : Hid (G.length = bn) := HGL.out.trans hie
              have HBw2 : Hid (Below L0 w w2) := show Below L0 w w2 from by rw [hw2]; exact hbw
              clear hB HB HGL hie hbw HBL3
              go_wp2_with fail
              rw [← hw2]
              clear hw2 z0
              go_loopw [9] (fun s9 wr => ∃ i : Nat, i ≤ bn ∧ s9 = .int .i64 i ∧ Below w2.heap.size w2 wr) (fun s9 _ => bn - (intOf s9).toNat)
              case atStart => exact ⟨0, Nat.zero_le _, rfl, Below.refl _ _⟩
              case round =>
                obtain ⟨i, hin, rfl, hbw⟩ := hrel
                have HBW : Hid (Below w2.heap.size w2 wr) := hbw
                have hB := HBG.out.more hbw
                have z0 : wr.cell? ⟨kb, 0, none⟩ = some (.slice bo bn bc) := hB.box.1.cell 0
                clear hbw
                by_cases hlt : i < bn
                · obtain ⟨d, hdi⟩ : ∃ d, G[i]? = some d := ⟨_, List.getElem?_eq_getElem (by rw [HGN.out]; exact hlt)⟩
                  obtain ⟨n, hnK, hdc, hdg⟩ := HGM.out i d hdi
                  obtain ⟨bg, hbg⟩ := hB.bg (by rw [HGN.out]; omega)
                  subst hbg
                  obtain ⟨k0, _, k2⟩ := hB.cells hdi
                  have hP : (EL.ent L0 d).P wr := hB.all _ (List.mem_cons_of_mem _ (List.mem_cons_of_mem _ (List.mem_map.2 ⟨d, List.mem_of_getElem? hdi, rfl⟩)))
                  simp only [EL.ent, hdg] at hP
                  obtain ⟨p1, p2, _⟩ := hP
                  rw [hdc] at p1
                  simp only [List.length_replicate] at p1 p2
                  obtain ⟨o1, c1, e1, _⟩ := own_slice p1
                  obtain ⟨o2, c2, e2, _⟩ := own_slice p2
                  rw [e1] at k0 p1
                  rw [e2] at k2 p2
                  obtain ⟨M, hM⟩ : ∃ y, y = n := ⟨_, rfl⟩
                  obtain ⟨M2, hM2⟩ : ∃ y, y = n + 100 := ⟨_, rfl⟩
                  rw [← hM] at k0 p1
                  rw [← hM2] at k2 p2
                  have HM1 : Hid (∀ W, Below wr.heap.size wr W → Calls Try.prog 43 #[.slice o1 M c1, .string ⟨(mkS i).toArray⟩] W fun e w' => e = .returned (.bool true) ∧ w' = W) := fun W hW => marked_yes _ (mkS i) W (ownsRow_same p1 (fun g hg => hW.block g (ownsRow_lt p1 hg).2)) (by omega)
                  have HM2 : Hid (∀ W, Below wr.heap.size wr W → Calls Try.prog 43 #[.slice o2 M2 c2, .string ⟨(mkS i).toArray⟩] W fun e w' => e = .returned (.bool true) ∧ w' = W) := fun W hW => marked_yes _ (mkS i) W (ownsRow_same p2 (fun g hg => hW.block g (ownsRow_lt p2 hg).2)) (by omega)
                  have HKB : Hid (Blk wr kb #[.slice (some ⟨bg, 0, none⟩) bn bc] 87) := hB.box.1
                  clear hB hdi hdc hdg p1 p2 e1 e2 hM hM2
                  go_wp2_with fail
                  first | rename_i KK hKK | skip
                  try rw [show ∀ a : Act, a.put none undef = a from fun _ => rfl]
                  refine wp_region_mix (fun wq => Blk wq kb #[.slice (some ⟨bg, 0, none⟩) bn bc] 87 ∧ wq.cell? ⟨bg, i * 3, none⟩ = some (.slice o1 M c1) ∧ wq.cell? ⟨bg, i * 3 + 2, none⟩ = some (.slice o2 M2 c2)) (fun i => i == 9 || i == 10 || i == 22 || i == 23 || i == 99) 99 (by kernel_rfl) rfl (by kernel_rfl) (by kernel_rfl) (by kernel_rfl) ?_
                  refine withFrP (N := 143) rfl ?_
                  intro f0 F0 hff
                  have ee0 : f0 0 = Value.pointer (some ⟨kb, 0, none⟩) := hff 0
                  have ee9 : f0 9 = Value.int .i64 (i : Nat) := hff 9
                  clear hff
                  have HCC : (fun wq => Blk wq kb #[.slice (some ⟨bg, 0, none⟩) bn bc] 87 ∧ wq.cell? ⟨bg, i * 3, none⟩ = some (.slice o1 M c1) ∧ wq.cell? ⟨bg, i * 3 + 2, none⟩ = some (.slice o2 M2 c2)) (({ wr with drawn := wr.drawn + 1 } : World)) := ⟨HKB.out, k0, k2⟩
                  refine lyp F0 rfl HCC rfl (by omega) (wanted_none rfl) (v := Value.pointer (some ⟨kb, 0, none⟩)) (fun wr hwr => by simp only [execOp, (F0.eval 0 (by omega)).trans (show _ = Value.pointer (some ⟨kb, 0, none⟩) from by simp [upd, ee0, ee9])]; first | rfl | simp [go_sem]) fun F1 => ?_
                  refine lyp F1 rfl HCC rfl (by omega) (wanted_none rfl) (v := Value.pointer (some ⟨kb, 0, none⟩)) (fun wr hwr => by simp only [execOp, (F1.eval 117 (by omega)).trans (show _ = Value.pointer (some ⟨kb, 0, none⟩) from by simp [upd, ee0, ee9])]; simp [go_sem]) fun F2 => ?_
                  refine lyp F2 rfl HCC rfl (by omega) (wanted_none rfl) (v := Value.pointer (some ⟨kb, 0, none⟩)) (fun wr hwr => by simp only [execOp, (F2.eval 118 (by omega)).trans (show _ = Value.pointer (some ⟨kb, 0, none⟩) from by simp [upd, ee0, ee9])]; simp [go_sem]) fun F3 => ?_
                  refine lyp F3 rfl HCC rfl (by omega) (wanted_none rfl) (v := Value.slice (some ⟨bg, 0, none⟩) bn bc) (fun wr hwr => by simp only [execOp, (F3.eval 119 (by omega)).trans (show _ = Value.pointer (some ⟨kb, 0, none⟩) from by simp [upd, ee0, ee9])]; simp [go_sem, show wr.cell? ⟨kb, 0, none⟩ = some (.slice (some ⟨bg, 0, none⟩) bn bc) from hwr.1.cell 0]) fun F4 => ?_
                  refine lyp F4 rfl HCC rfl (by omega) (wanted_none rfl) (v := Value.int .i64 (i : Nat)) (fun wr hwr => by simp only [execOp, (F4.eval 9 (by omega)).trans (show _ = Value.int .i64 (i : Nat) from by simp [upd, ee0, ee9])]; first | rfl | simp [go_sem]) fun F5 => ?_
                  refine lyp F5 rfl HCC rfl (by omega) (wanted_none rfl) (v := Value.pointer (some ⟨bg, i * 3, none⟩)) (fun wr hwr => by simp only [execOp, (F5.eval 120 (by omega)).trans (show _ = Value.slice (some ⟨bg, 0, none⟩) bn bc from by simp [upd, ee0, ee9]), (F5.eval 121 (by omega)).trans (show _ = Value.int .i64 (i : Nat) from by simp [upd, ee0, ee9])]; simp only [Sem.run_bind, Sem.run_pure, Result.andThen_ok, idx_run 85 100 3 Try.underlying85 (by kernel_rfl) wr bg 0 bn bc i (by omega), Nat.zero_add]; try rfl) fun F6 => ?_
                  refine lyp F6 rfl HCC rfl (by omega) (wanted_none rfl) (v := Value.pointer (some ⟨bg, i * 3, none⟩)) (fun wr hwr => by simp only [execOp, (F6.eval 122 (by omega)).trans (show _ = Value.pointer (some ⟨bg, i * 3, none⟩) from by simp [upd, ee0, ee9])]; simp [go_sem]) fun F7 => ?_
                  refine lyp F7 rfl HCC rfl (by omega) (wanted_none rfl) (v := Value.slice o1 M c1) (fun wr hwr => by simp only [execOp, (F7.eval 123 (by omega)).trans (show _ = Value.pointer (some ⟨bg, i * 3, none⟩) from by simp [upd, ee0, ee9])]; simp [go_sem, hwr.2.1]) fun F8 => ?_
                  refine lyp F8 rfl HCC rfl (by omega) (wanted_none rfl) (v := Value.int .i64 (i : Nat)) (fun wr hwr => by simp only [execOp, (F8.eval 9 (by omega)).trans (show _ = Value.int .i64 (i : Nat) from by simp [upd, ee0, ee9])]; first | rfl | simp [go_sem]) fun F9 => ?_
                  refine lcp F9 rfl HCC rfl (by omega) (wanted_none rfl) (g := 42) (args := #[Value.int .i64 (i : Nat)]) (by simp only [execOp, resolve, invoke, List.map_toArray, List.map_cons, List.map_nil, (F9.eval 125 (by omega)).trans (show _ = Value.int .i64 (i : Nat) from by simp [upd, ee0, ee9])]; simp [go_sem, Act.eval]) (mark_any i (({ wr with drawn := wr.drawn + 1 } : World)) (by omega)) ?_
                  rintro e9 v1 ⟨rfl, hbv1⟩
                  refine ⟨_, rfl, fun F10 => ?_⟩
                  have hXv1 : Below wr.heap.size wr v1 := (Below.drew (Below.refl wr.heap.size wr)).trans (hbv1.mono (Below.drew (Below.refl wr.heap.size wr)).size)
                  have HCv1 : (fun wq => Blk wq kb #[.slice (some ⟨bg, 0, none⟩) bn bc] 87 ∧ wq.cell? ⟨bg, i * 3, none⟩ = some (.slice o1 M c1) ∧ wq.cell? ⟨bg, i * 3 + 2, none⟩ = some (.slice o2 M2 c2)) v1 := ⟨HKB.out.below hXv1 HKB.out.lt, cell_belowR hXv1 k0, cell_belowR hXv1 k2⟩
                  refine lcp F10 rfl HCv1 rfl (by omega) (wanted_none rfl) (g := 43) (args := #[Value.slice o1 M c1, Value.string ⟨(mkS i).toArray⟩]) (by simp only [execOp, resolve, invoke, List.map_toArray, List.map_cons, List.map_nil, (F10.eval 124 (by omega)).trans (show _ = Value.slice o1 M c1 from by simp [upd, ee0, ee9]), (F10.eval 126 (by omega)).trans (show _ = Value.string ⟨(mkS i).toArray⟩ from by simp [upd, ee0, ee9])]; simp [go_sem, Act.eval]) (HM1.out v1 hXv1) ?_
                  rintro e9 w9 ⟨rfl, hw9⟩
                  replace hw9 := hw9.symm
                  subst hw9
                  refine ⟨_, rfl, fun F11 => ?_⟩
                  refine lyp F11 rfl HCv1 rfl (by omega) (wanted_none rfl) (v := Value.bool false) (fun wr hwr => by simp only [execOp, (F11.eval 127 (by omega)).trans (show _ = Value.bool true from by simp [upd, ee0, ee9])]; simp [go_sem, Act.eval]) fun F12 => ?_
                  refine lyp F12 rfl HCv1 rfl (by omega) (wanted_none rfl) (v := Value.bool false) (fun wr hwr => by simp only [execOp, (F12.eval 128 (by omega)).trans (show _ = Value.bool false from by simp [upd, ee0, ee9])]; first | rfl | simp [go_sem]) fun F13 => ?_
                  refine lyp F13 rfl HCv1 rfl (by omega) (want_yes F13 rfl (e := 129) rfl (by omega) (show _ = Value.bool false from by simp [upd, ee0, ee9])) (v := Value.pointer (some ⟨kb, 0, none⟩)) (fun wr hwr => by simp only [execOp, (F13.eval 0 (by omega)).trans (show _ = Value.pointer (some ⟨kb, 0, none⟩) from by simp [upd, ee0, ee9])]; first | rfl | simp [go_sem]) fun F14 => ?_
                  refine lyp F14 rfl HCv1 rfl (by omega) (want_yes F14 rfl (e := 129) rfl (by omega) (show _ = Value.bool false from by simp [upd, ee0, ee9])) (v := Value.pointer (some ⟨kb, 0, none⟩)) (fun wr hwr => by simp only [execOp, (F14.eval 130 (by omega)).trans (show _ = Value.pointer (some ⟨kb, 0, none⟩) from by simp [upd, ee0, ee9])]; simp [go_sem]) fun F15 => ?_
                  refine lyp F15 rfl HCv1 rfl (by omega) (want_yes F15 rfl (e := 129) rfl (by omega) (show _ = Value.bool false from by simp [upd, ee0, ee9])) (v := Value.pointer (some ⟨kb, 0, none⟩)) (fun wr hwr => by simp only [execOp, (F15.eval 131 (by omega)).trans (show _ = Value.pointer (some ⟨kb, 0, none⟩) from by simp [upd, ee0, ee9])]; simp [go_sem]) fun F16 => ?_
                  refine lyp F16 rfl HCv1 rfl (by omega) (want_yes F16 rfl (e := 129) rfl (by omega) (show _ = Value.bool false from by simp [upd, ee0, ee9])) (v := Value.slice (some ⟨bg, 0, none⟩) bn bc) (fun wr hwr => by simp only [execOp, (F16.eval 132 (by omega)).trans (show _ = Value.pointer (some ⟨kb, 0, none⟩) from by simp [upd, ee0, ee9])]; simp [go_sem, show wr.cell? ⟨kb, 0, none⟩ = some (.slice (some ⟨bg, 0, none⟩) bn bc) from hwr.1.cell 0]) fun F17 => ?_
                  refine lyp F17 rfl HCv1 rfl (by omega) (want_yes F17 rfl (e := 129) rfl (by omega) (show _ = Value.bool false from by simp [upd, ee0, ee9])) (v := Value.int .i64 (i : Nat)) (fun wr hwr => by simp only [execOp, (F17.eval 9 (by omega)).trans (show _ = Value.int .i64 (i : Nat) from by simp [upd, ee0, ee9])]; first | rfl | simp [go_sem]) fun F18 => ?_
                  refine lyp F18 rfl HCv1 rfl (by omega) (want_yes F18 rfl (e := 129) rfl (by omega) (show _ = Value.bool false from by simp [upd, ee0, ee9])) (v := Value.pointer (some ⟨bg, i * 3, none⟩)) (fun wr hwr => by simp only [execOp, (F18.eval 133 (by omega)).trans (show _ = Value.slice (some ⟨bg, 0, none⟩) bn bc from by simp [upd, ee0, ee9]), (F18.eval 134 (by omega)).trans (show _ = Value.int .i64 (i : Nat) from by simp [upd, ee0, ee9])]; simp only [Sem.run_bind, Sem.run_pure, Result.andThen_ok, idx_run 85 100 3 Try.underlying85 (by kernel_rfl) wr bg 0 bn bc i (by omega), Nat.zero_add]; try rfl) fun F19 => ?_
                  refine lyp F19 rfl HCv1 rfl (by omega) (want_yes F19 rfl (e := 129) rfl (by omega) (show _ = Value.bool false from by simp [upd, ee0, ee9])) (v := Value.pointer (some ⟨bg, i * 3 + 2, none⟩)) (fun wr hwr => by simp only [execOp, (F19.eval 135 (by omega)).trans (show _ = Value.pointer (some ⟨bg, i * 3, none⟩) from by simp [upd, ee0, ee9])]; simp [go_sem]) fun F20 => ?_
                  refine lyp F20 rfl HCv1 rfl (by omega) (want_yes F20 rfl (e := 129) rfl (by omega) (show _ = Value.bool false from by simp [upd, ee0, ee9])) (v := Value.slice o2 M2 c2) (fun wr hwr => by simp only [execOp, (F20.eval 136 (by omega)).trans (show _ = Value.pointer (some ⟨bg, i * 3 + 2, none⟩) from by simp [upd, ee0, ee9])]; simp [go_sem, hwr.2.2]) fun F21 => ?_
                  refine lyp F21 rfl HCv1 rfl (by omega) (want_yes F21 rfl (e := 129) rfl (by omega) (show _ = Value.bool false from by simp [upd, ee0, ee9])) (v := Value.int .i64 (i : Nat)) (fun wr hwr => by simp only [execOp, (F21.eval 9 (by omega)).trans (show _ = Value.int .i64 (i : Nat) from by simp [upd, ee0, ee9])]; first | rfl | simp [go_sem]) fun F22 => ?_
                  refine lcp F22 rfl HCv1 rfl (by omega) (want_yes F22 rfl (e := 129) rfl (by omega) (show _ = Value.bool false from by simp [upd, ee0, ee9])) (g := 42) (args := #[Value.int .i64 (i : Nat)]) (by simp only [execOp, resolve, invoke, List.map_toArray, List.map_cons, List.map_nil, (F22.eval 138 (by omega)).trans (show _ = Value.int .i64 (i : Nat) from by simp [upd, ee0, ee9])]; simp [go_sem, Act.eval]) (mark_any i (v1) (by omega)) ?_
                  rintro e9 v2 ⟨rfl, hbv2⟩
                  refine ⟨_, rfl, fun F23 => ?_⟩
                  have hXv2 : Below wr.heap.size wr v2 := hXv1.trans (hbv2.mono hXv1.size)
                  have HCv2 : (fun wq => Blk wq kb #[.slice (some ⟨bg, 0, none⟩) bn bc] 87 ∧ wq.cell? ⟨bg, i * 3, none⟩ = some (.slice o1 M c1) ∧ wq.cell? ⟨bg, i * 3 + 2, none⟩ = some (.slice o2 M2 c2)) v2 := ⟨HKB.out.below hXv2 HKB.out.lt, cell_belowR hXv2 k0, cell_belowR hXv2 k2⟩
                  refine lcp F23 rfl HCv2 rfl (by omega) (want_yes F23 rfl (e := 129) rfl (by omega) (show _ = Value.bool false from by simp [upd, ee0, ee9])) (g := 43) (args := #[Value.slice o2 M2 c2, Value.string ⟨(mkS i).toArray⟩]) (by simp only [execOp, resolve, invoke, List.map_toArray, List.map_cons, List.map_nil, (F23.eval 137 (by omega)).trans (show _ = Value.slice o2 M2 c2 from by simp [upd, ee0, ee9]), (F23.eval 139 (by omega)).trans (show _ = Value.string ⟨(mkS i).toArray⟩ from by simp [upd, ee0, ee9])]; simp [go_sem, Act.eval]) (HM2.out v2 hXv2) ?_
                  rintro e9 w9 ⟨rfl, hw9⟩
                  replace hw9 := hw9.symm
                  subst hw9
                  refine ⟨_, rfl, fun F24 => ?_⟩
                  refine lyp F24 rfl HCv2 rfl (by omega) (want_yes F24 rfl (e := 129) rfl (by omega) (show _ = Value.bool false from by simp [upd, ee0, ee9])) (v := Value.bool false) (fun wr hwr => by simp only [execOp, (F24.eval 140 (by omega)).trans (show _ = Value.bool true from by simp [upd, ee0, ee9])]; simp [go_sem, Act.eval]) fun F25 => ?_
                  refine lyp F25 rfl HCv2 rfl (by omega) (wanted_none rfl) (v := Value.bool false) (fun wr hwr => by simp only [execOp, (F25.eval 129 (by omega)).trans (show _ = Value.bool false from by simp [upd, ee0, ee9]), (F25.eval 141 (by omega)).trans (show _ = Value.bool false from by simp [upd, ee0, ee9])]; simp [go_sem, Act.eval]) fun F26 => ?_
                  have HBN : Hid (Below w2.heap.size w2 v2) := HBW.out.trans (hXv2.mono HBW.out.size)
                  refine ⟨fun _ => HCv2, ?_⟩
                  first | refine hKK _ _ ?_ | skip
                  clear F0 F1 F2 F3 F4 F5 F6 F7 F8 F9 F10 F11 F12 F13 F14 F15 F16 F17 F18 F19 F20 F21 F22 F23 F24 F25 F26 ee0 ee9 HCC
                  simp only [Act.put, List.setIfInBounds_toArray, List.set_cons_succ, List.set_cons_zero]
                  clear k0 k2
                  go_wp2_with fail
                  go_roundw
                  case rel => exact ⟨i + 1, by omega, by go_num, HBN.out⟩
                  case measure => simp [intOf]; omega
                · have HFB : Hid (Below L0 w wr) := HBw2.out.trans (HBW.out.mono (Nat.le_trans hL HBw2.out.size))
                  clear hB
                  go_wp2_with fail
                  go_ret
                  exact ⟨rfl, HFB.out⟩
end Go.Proofs.Ytaiknlnjahjeiaa
