import Derived.Test.YtjpdcahodmomgaaJt6
import Derived.Test.YtjpdcahodmomgaaMix2
namespace Go.Proofs.Ytjpdcahodmomgaa
open Go.RowKit Go.PlainAid
set_option linter.unusedVariables false
set_option linter.unusedSimpArgs false
/-- A copy of bytes: append([]byte(nil), b...). -/
theorem by_copy {w : World} {mo : Option Addr} {mn mc : Nat} {bs : List UInt8} (h : By w (.slice mo mn mc) bs) (hl : bs.length ≤ 140737488355328) : ∃ v' w', (∀ ty, (Builtin.append_ #[38, 38] ty #[.slice none 0 0, .slice mo mn mc]).run Try.prog w = .ok v' w') ∧ w'.ownsRow w.heap.size 5 1 v' bs.length (bs.map B) ∧ Below w.heap.size w w' := by
  obtain ⟨ao, n, cap, e, hn, h0, hc⟩ := h
  cases e
  obtain ⟨v1, w1, hr1, ho1, hg1⟩ := app_rows (w := w) 38 5 (.int .u8 0) 1 1 Try.underlying38 info5' rfl (by decide) (by decide) (World.ownsRow_nil w w.heap.size 5 1) (ao := mo) (m := mn) (cap := mc) (ys := bs.map B) (by simp [hn]) h0 hc (oneB bs) (by omega) (Nat.le_refl _)
  rw [Nat.zero_add, List.nil_append, ← hn] at ho1
  exact ⟨v1, w1, hr1, ho1, hg1.below (fun q hq => by cases hq) (Nat.le_refl _)⟩
theorem held_third {L : Nat} {a b c : Ent L} {R : List (Ent L)} {w : World} (h : Held (c :: a :: b :: R) w) : Held (a :: b :: c :: R) w := h.perm ((List.Perm.swap ..).trans (List.Perm.cons _ (List.Perm.swap ..)))
def DV.on (x : DV) : DV := { x with off := false }
/-- What the tale's opening leaves. -/
structure OpO (L tb p s : Nat) (x : DV) (lo : List (Value × List UInt8)) (R : List (Ent L)) (w : World) (jb : Nat) (y : JV) (mv : Value) (hi : List (Value × List UInt8)) (w' : World) : Prop where
  h : Held (y.es L jb ++ (dmE L p s x.on :: (taleE L tb p mv lo hi ++ R))) w'
  b : Below L w w'
  p : y.p = p
  fin : y.fin = x.n
  recs : y.recs.map Prod.snd = mustL lo hi
  next : y.next = (itR x.b (mustL lo hi).length).2
  inv : Inv x.b x.n (mustL lo hi)
theorem jis_of {b : Nat → UInt8} {p : Nat} {x : DV} {y : JV} {k : Nat} {must : List (List UInt8)} (hf : Full x.b x.n k) (hj : JIs y p x k) (hi : Inv x.b x.n must) : k = must.length ∧ y.recs.map Prod.snd = must ∧ y.next = (itR x.b must.length).2 := by
  have hk := hf.one hi.full
  subst hk
  exact ⟨rfl, by rw [hj.recs, hi.it], hj.next⟩
section
variable {L tb p s : Nat} {x : DV} {mv : Value} {lo hi : List (Value × List UInt8)} {R : List (Ent L)}
set_option maxRecDepth 100000 in
set_option maxHeartbeats 6400000 in
theorem opened_same {mo : Option Addr} {mn mc : Nat} {may : List UInt8} (perh : Bool) (w : World) (h : Held (dmE L p s x :: (taleE L tb p mv lo hi ++ R)) w) (hlo : LoS L w R lo) (hn : x.n ≤ 60) (hinv : Inv x.b x.n (mustL lo hi)) :
    Calls Try.prog 20 #[.pointer (some ⟨tb, 0, none⟩), .slice mo mn mc, .bool perh] w fun e w' => ∃ jb y mv' hi', e = .returned (.pointer (some ⟨jb, 0, none⟩)) ∧ OpO L tb p s x lo R w jb y mv' hi' w' := by
  have hT := h.drop
  obtain ⟨ro, rc, hmv⟩ := tail_val (tale_row hT)
  obtain ⟨m, hm0⟩ : ∃ m, m = (lo ++ hi).length := ⟨_, rfl⟩
  have hmust : (mustL lo hi).length = m := by rw [mustL_len, hm0]
  rw [← hm0] at hmv
  have hup := Upto.le hinv.up
  rw [hmust] at hup
  have hm60 : m ≤ 60 := by omega
  have hL : L ≤ w.heap.size := tale_low hT
  have hd : DM L p s x w := h.all _ (List.mem_cons_self ..)
  have c0 : w.cell? ⟨tb, 0, none⟩ = some (.pointer (some ⟨p, 0, none⟩)) := (tale_box hT).cell 0
  have HON : Hid _ := on_any w hd
  have HH : Hid (Held (dmE L p s x :: (taleE L tb p mv lo hi ++ R)) w) := h
  have HI : Hid _ := hinv
  have HB : Hid (x.n ≤ 60 ∧ L ≤ w.heap.size ∧ (mustL lo hi).length = m ∧ m = (lo ++ hi).length ∧ mv = .slice ro m rc) := ⟨hn, hL, hmust, hm0, hmv⟩
  have HLO : Hid (LoS L w R lo) := hlo
  clear h hT hinv hup hL hd hlo hn hmust hmv hm0
  go_enter Try.func20, Try.ntmps20
  go_wp2_with fail
  refine Calls.mono HON.out ?_
  rintro e w1 ⟨rfl, hd1, hc1⟩
  clear HON c0
  have h1 : Held (dmE L p s x.on :: (taleE L tb p mv lo hi ++ R)) w1 := HH.out.swap (e' := dmE L p s x.on) (hc1.mono (fun k _ e => Or.inl e)) hd1 (fun k hk => Or.inl hk)
  have hb1 : Below L w w1 := hc1.below HB.out.2.1 (fun k e => by rw [e]; exact ((HH.out.all _ (List.mem_cons_self ..) : DM L p s x w).lt (Or.inl rfl)).1)
  have c1 : w1.cell? ⟨tb, 0, none⟩ = some (.pointer (some ⟨p, 0, none⟩)) := (tale_box h1.drop).cell 0
  have HO : Hid _ := open_any w1 h1 rfl (by have := HB.out.1; show x.n ≤ 1000; omega)
  have HB1 : Hid (Below L w w1) := hb1
  clear h1 hd1 hc1 hb1 HH
  go_wp2_with fail
  refine Calls.mono HO.out ?_
  rintro e w2 ⟨jb, y, k, rfl, hf, hj, h2, hb2⟩
  clear HO c1
  obtain ⟨hk, hrc, hnx⟩ := jis_of (b := x.b) (x := x.on) hf hj HI.out
  rw [HB.out.2.2.1] at hk
  have hlen : y.recs.length = m := by rw [hj.len, hk]
  have HJ : Hid (y.p = p ∧ y.fin = x.n ∧ y.recs.length ≤ 60 ∧ L ≤ w2.heap.size ∧ Below L w w2) := ⟨hj.p, hj.fin, by omega, jlow h2, HB1.out.trans hb2⟩
  have HR : Hid (y.recs.map Prod.snd = mustL lo hi ∧ y.next = (itR x.b (mustL lo hi).length).2) := ⟨hrc, hnx⟩
  have hT2 : Held (taleE L tb p mv lo hi ++ (y.es L jb ++ (dmE L p s x.on :: R))) w2 := h2.perm (perm_tale ..)
  have HT2 : Hid (Held (taleE L tb p mv lo hi ++ (y.es L jb ++ (dmE L p s x.on :: R))) w2) := hT2
  have HLN : Hid _ := len_any w2 h2 (by omega)
  have c1 : w2.cell? ⟨tb, 1, none⟩ = some (.slice ro m rc) := ((tale_box hT2).cell 1).trans (congrArg some HB.out.2.2.2.2)
  rw [hlen] at HLN
  clear hk hrc hnx hf hj h2 hb2 hT2 hlen HB1
  go_wp2_with fail
  refine Calls.mono HLN.out ?_
  rintro e w3 ⟨rfl, hw3⟩
  replace hw3 := hw3.symm
  subst hw3
  clear HLN
  have HTF : Hid (Held (taleE L tb p mv lo hi ++ (y.es L jb ++ (dmE L p s x.on :: R))) w2 ∧ Below L w w2) := ⟨HT2.out, HJ.out.2.2.2.2⟩
  have HTF2 : Hid (w.heap.size ≤ w2.heap.size) := HJ.out.2.2.2.2.size
  have HIF : Hid (Inv x.b x.n (mustL lo hi)) := HI.out
  have HR2 : Hid (y.recs.map Prod.snd = mustL lo hi ∧ y.next = (itR x.b (mustL lo hi).length).2 ∧ ∀ d ∈ y.recs, d.2.length ≤ 8192) := ⟨HR.out.1, HR.out.2, fun d hd => by
    have h1 := (Upto.le HI.out.up).2.2
    rw [HI.out.it, ← HR.out.1] at h1
    exact h1 d.2 (List.mem_map_of_mem hd)⟩
  have hmm : ((m : Int) != (m : Int)) = false := by simp
  clear c1
  have c1 : w2.cell? ⟨tb, 1, none⟩ = some (.slice ro m rc) := ((tale_box HTF.out.1).cell 1).trans (congrArg some HB.out.2.2.2.2)
  have HRW : Rows w2 mv (mustL lo hi) := tale_rows HTF.out.1 (HLO.out w2 (HTF.out.2) (Held.drop (Held.tailR (Held.tailR HTF.out.1))))
  have HJW : Held (y.es L jb ++ (dmE L p s x.on :: (taleE L tb p mv lo hi ++ R))) w2 := HTF.out.1.perm (perm_tale ..).symm
  have HTL0 := tells_yes w2 HJW HR2.out.1 HR2.out.2.2 (by have := HJ.out.2.2.1; omega) HRW
  have HOF : Hid (∀ W, Below w2.heap.size w2 W → OpO L tb p s x lo R w jb y mv hi W) := fun W hW => ⟨HJW.more hW, HTF.out.2.trans (hW.mono (Nat.le_trans HB.out.2.1 HTF2.out)), HJ.out.1, HJ.out.2.1, HR2.out.1, HR2.out.2.1, HIF.out⟩
  rw [HB.out.2.2.2.2] at HTL0
  have HTL : Hid _ := HTL0
  clear HRW HJW HTL0
  go_wp2_with fail
  refine Calls.mono HTL.out ?_
  rintro e w9 ⟨rfl, hb9⟩
  have HO9 : Hid _ := HOF.out w9 hb9
  clear HTL HOF hb9
  go_wp2_with fail
  go_ret
  exact ⟨jb, y, _, hi, rfl, HO9.out⟩
set_option maxRecDepth 100000 in
set_option maxHeartbeats 6400000 in
theorem opened_more {mo : Option Addr} {mn mc : Nat} {may : List UInt8} (perh : Bool) (w : World) (h : Held (dmE L p s x :: (taleE L tb p mv lo hi ++ R)) w) (hlo : LoS L w R lo) (hn : x.n ≤ 60) (hm : ∀ W, Below L w W → Held R W → By W (.slice mo mn mc) may) (hml : may.length ≤ 8192) (hinv : Inv x.b x.n (mustL lo hi ++ [may])) :
    Calls Try.prog 20 #[.pointer (some ⟨tb, 0, none⟩), .slice mo mn mc, .bool true] w fun e w' => ∃ jb y mv' hi', e = .returned (.pointer (some ⟨jb, 0, none⟩)) ∧ OpO L tb p s x lo R w jb y mv' hi' w' := by
  have hT := h.drop
  obtain ⟨ro, rc, hmv⟩ := tail_val (tale_row hT)
  obtain ⟨m, hm0⟩ : ∃ m, m = (lo ++ hi).length := ⟨_, rfl⟩
  have hmust : (mustL lo hi).length = m := by rw [mustL_len, hm0]
  rw [← hm0] at hmv
  have hup := Upto.le hinv.up
  rw [List.length_append, hmust] at hup
  have hm60 : m + 1 ≤ 60 := by have := hup.1; have := hup.2.1; simp at *; omega
  have hL : L ≤ w.heap.size := tale_low hT
  have hd : DM L p s x w := h.all _ (List.mem_cons_self ..)
  have c0 : w.cell? ⟨tb, 0, none⟩ = some (.pointer (some ⟨p, 0, none⟩)) := (tale_box hT).cell 0
  have HON : Hid _ := on_any w hd
  have HH : Hid (Held (dmE L p s x :: (taleE L tb p mv lo hi ++ R)) w) := h
  have HI : Hid _ := hinv
  have HB : Hid (x.n ≤ 60 ∧ L ≤ w.heap.size ∧ (mustL lo hi).length = m ∧ m = (lo ++ hi).length ∧ mv = .slice ro m rc) := ⟨hn, hL, hmust, hm0, hmv⟩
  have HLO : Hid (LoS L w R lo) := hlo
  have HMY : Hid (∀ W, Below L w W → Held R W → By W (.slice mo mn mc) may) := hm
  have HML : Hid (may.length ≤ 8192) := hml
  clear hm hml
  clear h hT hinv hup hL hd hlo hn hmust hmv hm0
  go_enter Try.func20, Try.ntmps20
  go_wp2_with fail
  refine Calls.mono HON.out ?_
  rintro e w1 ⟨rfl, hd1, hc1⟩
  clear HON c0
  have h1 : Held (dmE L p s x.on :: (taleE L tb p mv lo hi ++ R)) w1 := HH.out.swap (e' := dmE L p s x.on) (hc1.mono (fun k _ e => Or.inl e)) hd1 (fun k hk => Or.inl hk)
  have hb1 : Below L w w1 := hc1.below HB.out.2.1 (fun k e => by rw [e]; exact ((HH.out.all _ (List.mem_cons_self ..) : DM L p s x w).lt (Or.inl rfl)).1)
  have c1 : w1.cell? ⟨tb, 0, none⟩ = some (.pointer (some ⟨p, 0, none⟩)) := (tale_box h1.drop).cell 0
  have HO : Hid _ := open_any w1 h1 rfl (by have := HB.out.1; show x.n ≤ 1000; omega)
  have HB1 : Hid (Below L w w1) := hb1
  clear h1 hd1 hc1 hb1 HH
  go_wp2_with fail
  refine Calls.mono HO.out ?_
  rintro e w2 ⟨jb, y, k, rfl, hf, hj, h2, hb2⟩
  clear HO c1
  obtain ⟨hk, hrc, hnx⟩ := jis_of (b := x.b) (x := x.on) hf hj HI.out
  have hk2 : k = m + 1 := by rw [hk, List.length_append, HB.out.2.2.1]; rfl
  have hlen : y.recs.length = m + 1 := by rw [hj.len, hk2]
  have HJ : Hid (y.p = p ∧ y.fin = x.n ∧ y.recs.length ≤ 60 ∧ L ≤ w2.heap.size ∧ Below L w w2) := ⟨hj.p, hj.fin, by omega, jlow h2, HB1.out.trans hb2⟩
  have HR : Hid (y.recs.map Prod.snd = mustL lo hi ++ [may] ∧ y.next = (itR x.b (mustL lo hi ++ [may]).length).2) := ⟨hrc, hnx⟩
  have hT2 : Held (taleE L tb p mv lo hi ++ (y.es L jb ++ (dmE L p s x.on :: R))) w2 := h2.perm (perm_tale ..)
  have HT2 : Hid (Held (taleE L tb p mv lo hi ++ (y.es L jb ++ (dmE L p s x.on :: R))) w2) := hT2
  have HLN : Hid _ := len_any w2 h2 (by omega)
  have c1 : w2.cell? ⟨tb, 1, none⟩ = some (.slice ro m rc) := ((tale_box hT2).cell 1).trans (congrArg some HB.out.2.2.2.2)
  rw [hlen] at HLN
  clear hk hrc hnx hf hj h2 hb2 hT2 hlen HB1 hk2
  go_wp2_with fail
  refine Calls.mono HLN.out ?_
  rintro e w3 ⟨rfl, hw3⟩
  replace hw3 := hw3.symm
  subst hw3
  clear HLN
  have hmm : (((m : Int) + 1) != (m : Int)) = true := by simp; try omega
  have hmm2 : (((m : Int) + 1) != ((m : Int) + 1)) = false := by simp
  have hmm3 : (m : Int) < (m : Int) + 1 := by omega
  have HCX : Hid (w2.cell? ⟨tb, 1, none⟩ = some (Value.slice ro m rc) ∧ By w2 (Value.slice mo mn mc) may) := ⟨c1, HMY.out w2 HJ.out.2.2.2.2 (Held.drop (Held.tailR (Held.tailR HT2.out)))⟩
  have HHE : Hid (Held (tailE L 38 (Value.slice ro m rc) m ((lo ++ hi).map Prod.fst) :: boxE L tb #[.pointer (some ⟨p, 0, none⟩), Value.slice ro m rc] 48 :: (hi.map (datE L) ++ (y.es L jb ++ (dmE L p s x.on :: R)))) w2) := by
    have := tale_open HT2.out
    rw [← HB.out.2.2.2.1, HB.out.2.2.2.2] at this
    exact this
  have HCX9 : Hid (∀ {w8 : World} {v8 v6 : Value} {n8 : Nat} {xs8 : List Value}, Held (tailE L 38 v8 n8 xs8 :: boxE L tb #[.pointer (some ⟨p, 0, none⟩), Value.slice ro m rc] 48 :: datE L (v6, may) :: (hi.map (datE L) ++ (y.es L jb ++ (dmE L p s x.on :: R)))) w8 → Below L w2 w8 → By w8 (Value.slice mo mn mc) may) := fun h8 hb8 => HMY.out _ (HJ.out.2.2.2.2.trans hb8) (Held.drop (Held.tailR (Held.tailR h8.drop.drop.drop)))
  have HLX : Hid (L ≤ w2.heap.size) := HJ.out.2.2.2.1
  have HLIM : Hid (may.length ≤ 140737488355328 ∧ m ≤ 60) := ⟨by have := HML.out; omega, by omega⟩
  go_wp2_with fail
  have HMM : Hid (m = (lo ++ hi).length) := HB.out.2.2.2.1
  rename_i K hK
  try rw [show ∀ a : Act, a.put none undef = a from fun _ => rfl]
  refine wp_region_mix (fun wz : World => wz.cell? ⟨tb, 1, none⟩ = some (Value.slice ro m rc) ∧ By wz (Value.slice mo mn mc) may) (fun i => i == 6 || i == 7 || i == 8 || i == 11) 11 (by kernel_rfl) rfl (by kernel_rfl) (by kernel_rfl) (by kernel_rfl) ?_
  refine withFrP (N := 78) rfl ?_
  intro f0 F0 hff
  have ee0 : f0 0 = Value.pointer (some ⟨tb, 0, none⟩) := hff 0
  have ee1 : f0 1 = Value.slice mo mn mc := hff 1
  clear hff
  have HCC : (fun wz : World => wz.cell? ⟨tb, 1, none⟩ = some (Value.slice ro m rc) ∧ By wz (Value.slice mo mn mc) may) ({ w2 with drawn := w2.drawn + 1 } : World) := HCX.out
  have HHX : Held (tailE L 38 (Value.slice ro m rc) m ((lo ++ hi).map Prod.fst) :: boxE L tb #[.pointer (some ⟨p, 0, none⟩), Value.slice ro m rc] 48 :: (hi.map (datE L) ++ (y.es L jb ++ (dmE L p s x.on :: R)))) ({ w2 with drawn := w2.drawn + 1 } : World) := HHE.out.keep (fun _ _ => rfl)
  refine lyp F0 rfl HCC rfl (by omega) (wanted_none rfl) (v := Value.pointer (some ⟨tb, 0, none⟩)) (fun wr hwr => by simp only [execOp, (F0.eval 0 (by omega)).trans (show _ = Value.pointer (some ⟨tb, 0, none⟩) from by simp [upd, ee0, ee1])]; first | rfl | simp [go_sem]) fun F1 => ?_
  refine lyp F1 rfl HCC rfl (by omega) (wanted_none rfl) (v := Value.pointer (some ⟨tb, 0, none⟩)) (fun wr hwr => by simp only [execOp, (F1.eval 0 (by omega)).trans (show _ = Value.pointer (some ⟨tb, 0, none⟩) from by simp [upd, ee0, ee1])]; first | rfl | simp [go_sem]) fun F2 => ?_
  refine lyp F2 rfl HCC rfl (by omega) (wanted_none rfl) (v := Value.pointer (some ⟨tb, 0, none⟩)) (fun wr hwr => by simp only [execOp, (F2.eval 60 (by omega)).trans (show _ = Value.pointer (some ⟨tb, 0, none⟩) from by simp [upd, ee0, ee1])]; simp [go_sem]) fun F3 => ?_
  refine lyp F3 rfl HCC rfl (by omega) (wanted_none rfl) (v := Value.pointer (some ⟨tb, 1, none⟩)) (fun wr hwr => by simp only [execOp, (F3.eval 61 (by omega)).trans (show _ = Value.pointer (some ⟨tb, 0, none⟩) from by simp [upd, ee0, ee1])]; simp [go_sem]) fun F4 => ?_
  refine lyp F4 rfl HCC rfl (by omega) (wanted_none rfl) (v := Value.slice ro m rc) (fun wr hwr => by simp only [execOp, (F4.eval 62 (by omega)).trans (show _ = Value.pointer (some ⟨tb, 1, none⟩) from by simp [upd, ee0, ee1])]; simp [go_sem, hwr.1]) fun F5 => ?_
  refine lyp F5 rfl HCC rfl (by omega) (wanted_none rfl) (v := Value.slice mo mn mc) (fun wr hwr => by simp only [execOp, (F5.eval 1 (by omega)).trans (show _ = Value.slice mo mn mc from by simp [upd, ee0, ee1])]; first | rfl | simp [go_sem]) fun F6 => ?_
  obtain ⟨v6, w6, hr6, ho6, hg6⟩ := by_copy HCC.2 HLIM.out.1
  have hb6 : Below w2.heap.size ({ w2 with drawn := w2.drawn + 1 } : World) w6 := hg6
  have HC6 : (fun wz : World => wz.cell? ⟨tb, 1, none⟩ = some (Value.slice ro m rc) ∧ By wz (Value.slice mo mn mc) may) w6 := ⟨(hb6.cell (World.block_lt_of_cell? _ _ HCC.1)).trans HCC.1, HCC.2.keep hb6⟩
  have HH6 : Held (tailE L 38 (Value.slice ro m rc) m ((lo ++ hi).map Prod.fst) :: boxE L tb #[.pointer (some ⟨p, 0, none⟩), Value.slice ro m rc] 48 :: datE L (v6, may) :: (hi.map (datE L) ++ (y.es L jb ++ (dmE L p s x.on :: R)))) w6 := held_third (Held.fresh HHX hb6 (show w6.ownsRow L 5 1 v6 may.length (may.map B) from ownsRow_mono ho6 HLX.out) (fun k hk => (ownsRow_lt ho6 hk).1))
  have hL6 : L ≤ w6.heap.size := Nat.le_trans HLX.out hb6.size
  obtain ⟨vo6, vc6, hv6, _⟩ := own_slice ho6
  subst hv6
  refine lep F6 rfl HCC rfl (by omega) (wanted_none rfl) (v := Value.slice vo6 may.length vc6) (w1 := w6) (by simp only [execOp, resolve, invoke, builtin, List.map_toArray, List.map_cons, List.map_nil, show ∀ (a : Act) (v : Value), a.eval (.const v) = v from fun _ _ => rfl, (F6.eval 64 (by omega)).trans (show _ = Value.slice mo mn mc from by simp [upd, ee0, ee1])]; simp only [Sem.run_bind, Sem.run_pure, Result.andThen_ok, hr6]; try rfl) fun F7 => ?_
  refine lep F7 rfl HC6 rfl (by omega) (wanted_none rfl) (v := Value.slice (some ⟨w6.heap.size, 0, none⟩) 1 1) (w1 := (w6.alloc (.cells #[Value.slice vo6 may.length vc6] 38))) (by simp only [execOp, List.map_toArray, List.map_cons, List.map_nil, (F7.eval 65 (by omega)).trans (show _ = Value.slice vo6 may.length vc6 from by simp [upd, ee0, ee1])]; simp [go_sem]) fun F8 => ?_
  have hbY : Below w6.heap.size w6 (w6.alloc (.cells #[Value.slice vo6 may.length vc6] 38)) := Below.alloc (Below.refl w6.heap.size w6) (Nat.le_refl _) _
  have HCY : (fun wz : World => wz.cell? ⟨tb, 1, none⟩ = some (Value.slice ro m rc) ∧ By wz (Value.slice mo mn mc) may) (w6.alloc (.cells #[Value.slice vo6 may.length vc6] 38)) := ⟨(hbY.cell (World.block_lt_of_cell? _ _ HC6.1)).trans HC6.1, HC6.2.keep hbY⟩
  obtain ⟨v8, w8, hr8, hH8, hc8, ⟨ao8, c8, hv8⟩, hat8⟩ := HH6.tailApp (t := 30) Try.underlying30 info30 rfl (Value.slice vo6 may.length vc6) rfl (by have := HLIM.out.2; omega) (by have := HLIM.out.2; omega) hL6
  have hB8 : Blk w8 tb #[.pointer (some ⟨p, 0, none⟩), Value.slice ro m rc] 48 := hH8.drop.boxB
  have hb8 : Below L w2 w8 := ((below_dr (Below.refl L w2) 1).trans (hb6.mono HLX.out)).trans (hc8.below hL6 (fun k hk => (tail_lt (HH6.all (tailE L 38 (Value.slice ro m rc) m ((lo ++ hi).map Prod.fst)) (List.mem_cons_self ..)) k hk).1))
  have HC9 : (fun wz : World => wz.cell? ⟨tb, 1, none⟩ = some (Value.slice ro m rc) ∧ By wz (Value.slice mo mn mc) may) w8 := ⟨hB8.cell 1, HCX9.out hH8 hb8⟩
  subst hv8
  refine lep F8 rfl HCY rfl (by omega) (wanted_none rfl) (v := Value.slice ao8 (m + 1) c8) (w1 := w8) (by simp only [execOp, resolve, invoke, builtin, List.map_toArray, List.map_cons, List.map_nil, (F8.eval 63 (by omega)).trans (show _ = Value.slice ro m rc from by simp [upd, ee0, ee1]), (F8.eval 66 (by omega)).trans (show _ = Value.slice (some ⟨w6.heap.size, 0, none⟩) 1 1 from by simp [upd, ee0, ee1])]; simp only [Sem.run_bind, Sem.run_pure, Result.andThen_ok, hr8]; try rfl) fun F9 => ?_
  refine lyp F9 rfl HC9 rfl (by omega) (wanted_none rfl) (v := Value.pointer (some ⟨tb, 0, none⟩)) (fun wr hwr => by simp only [execOp, (F9.eval 59 (by omega)).trans (show _ = Value.pointer (some ⟨tb, 0, none⟩) from by simp [upd, ee0, ee1])]; simp [go_sem]) fun F10 => ?_
  refine lyp F10 rfl HC9 rfl (by omega) (wanted_none rfl) (v := Value.pointer (some ⟨tb, 1, none⟩)) (fun wr hwr => by simp only [execOp, (F10.eval 68 (by omega)).trans (show _ = Value.pointer (some ⟨tb, 0, none⟩) from by simp [upd, ee0, ee1])]; simp [go_sem]) fun F11 => ?_
  refine lst rfl HC9 rfl (wanted_none rfl) (w1 := w8.setCell ⟨tb, 1, none⟩ (Value.slice ao8 (m + 1) c8)) (by simp only [execOp, (F11.eval 69 (by omega)).trans (show _ = Value.pointer (some ⟨tb, 1, none⟩) from by simp [upd, ee0, ee1]), (F11.eval 67 (by omega)).trans (show _ = Value.slice ao8 (m + 1) c8 from by simp [upd, ee0, ee1])]; simp [go_sem, hB8.frozen 1, show w8.cell? ⟨tb, 1, none⟩ = some (Value.slice ro m rc) from HC9.1]) ?_
  have HT8 : Hid (Held (taleE L tb p (Value.slice ao8 (m + 1) c8) lo (hi ++ [(Value.slice vo6 may.length vc6, may)]) ++ (y.es L jb ++ (dmE L p s x.on :: R))) (w8.setCell ⟨tb, 1, none⟩ (Value.slice ao8 (m + 1) c8)) ∧ Below L w2 (w8.setCell ⟨tb, 1, none⟩ (Value.slice ao8 (m + 1) c8))) := ⟨tale_shut (by rw [← HMM.out]; exact (hH8.perm (List.Perm.swap ..)).boxSet 1 (Value.slice ao8 (m + 1) c8)), hb8.trans ((setCell_chg _ _ _ _).below (Nat.le_trans HLX.out hb8.size) (fun k e => by rw [e]; exact (hH8.all (boxE L tb #[.pointer (some ⟨p, 0, none⟩), Value.slice ro m rc] 48) (List.mem_cons_of_mem _ (List.mem_cons_self ..))).2))⟩
  refine ⟨fun h => by omega, ?_⟩
  refine hK _ _ ?_
  clear F0 F1 F2 F3 F4 F5 F6 F7 F8 F9 F10 F11 ee0 ee1 HCC HCY HC9 HC6 hb8 hb6 hL6 hbY hB8 hH8 hc8 hat8 hr8 hr6 ho6 HHX HH6
  simp only [Act.put, List.setIfInBounds_toArray, List.set_cons_succ, List.set_cons_zero]
  generalize w8.setCell ⟨tb, 1, none⟩ (Value.slice ao8 (m + 1) c8) = w9 at HT8 ⊢
  clear c1 HHE HCX HCX9 HT2
  have HTF : Hid (Held (taleE L tb p (Value.slice ao8 (m + 1) c8) lo (hi ++ [(Value.slice vo6 may.length vc6, may)]) ++ (y.es L jb ++ (dmE L p s x.on :: R))) w9 ∧ Below L w w9) := ⟨HT8.out.1, HJ.out.2.2.2.2.trans HT8.out.2⟩
  have HTF2 : Hid (w.heap.size ≤ w9.heap.size) := HTF.out.2.size
  have HIF : Hid (Inv x.b x.n (mustL lo (hi ++ [(Value.slice vo6 may.length vc6, may)]))) := by
    rw [Hid, mustL_more]; exact HI.out
  have HR2 : Hid (y.recs.map Prod.snd = mustL lo (hi ++ [(Value.slice vo6 may.length vc6, may)]) ∧ y.next = (itR x.b (mustL lo (hi ++ [(Value.slice vo6 may.length vc6, may)])).length).2 ∧ ∀ d ∈ y.recs, d.2.length ≤ 8192) := ⟨by rw [mustL_more]; exact HR.out.1, by rw [mustL_more]; exact HR.out.2, fun d hd => by
    have h1 := (Upto.le HI.out.up).2.2
    rw [HI.out.it, ← HR.out.1] at h1
    exact h1 d.2 (List.mem_map_of_mem hd)⟩
  clear HT8
  have hd9 : Value.slice ao8 (m + 1) c8 = Value.slice ao8 (m + 1) c8 := rfl
  have HRW : Rows w9 (Value.slice ao8 (m + 1) c8) (mustL lo (hi ++ [(Value.slice vo6 may.length vc6, may)])) := tale_rows HTF.out.1 (HLO.out w9 (HTF.out.2) (Held.drop (Held.tailR (Held.tailR HTF.out.1))))
  have HJW : Held (y.es L jb ++ (dmE L p s x.on :: (taleE L tb p (Value.slice ao8 (m + 1) c8) lo (hi ++ [(Value.slice vo6 may.length vc6, may)]) ++ R))) w9 := HTF.out.1.perm (perm_tale ..).symm
  have HTL : Hid _ := tells_yes w9 HJW HR2.out.1 HR2.out.2.2 (by have := HJ.out.2.2.1; omega) HRW
  have c5 : w9.cell? ⟨tb, 1, none⟩ = some (Value.slice ao8 (m + 1) c8) := (tale_box HTF.out.1).cell 1
  have HOF : Hid (∀ W, Below w9.heap.size w9 W → OpO L tb p s x lo R w jb y (Value.slice ao8 (m + 1) c8) (hi ++ [(Value.slice vo6 may.length vc6, may)]) W) := fun W hW => ⟨HJW.more hW, HTF.out.2.trans (hW.mono (Nat.le_trans HB.out.2.1 HTF2.out)), HJ.out.1, HJ.out.2.1, HR2.out.1, HR2.out.2.1, HIF.out⟩
  clear HRW HJW
  go_wp2_with fail
  refine Calls.mono HTL.out ?_
  rintro e w10 ⟨rfl, hb9⟩
  have HO9 : Hid _ := HOF.out w10 hb9
  clear HTL HOF hb9
  go_wp2_with fail
  go_ret
  exact ⟨jb, y, _, (hi ++ [(Value.slice vo6 may.length vc6, may)]), rfl, HO9.out⟩
end
end Go.Proofs.Ytjpdcahodmomgaa
