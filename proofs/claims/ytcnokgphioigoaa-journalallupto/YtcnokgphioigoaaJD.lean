import Derived.Test.YtcnokgphioigoaaJn2
import Derived.Test.YtcnokgphioigoaaArgs
import Derived.Deep.RegionWith
import Derived.Deep.Cut
import Derived.Defers
namespace Go.Proofs.Ytcnokgphioigoaa
open Go.RowKit Go.PlainAid
set_option linter.unusedVariables false
set_option linter.unusedSimpArgs false
theorem len98 : Try.prog.arrayLen 96 = 8 := by kernel_rfl
theorem elem98 : Try.prog.elem 96 = 5 := by kernel_rfl
theorem slice98 (g : Nat) (w : World) : (Instr.sliceAt 96 (.pointer (some ⟨g, 0, none⟩)) none none none).run Try.prog w = .ok (.slice (some ⟨g, 0, none⟩) 8 8) w := by
  have hs : (sizeOf 5).run Try.prog w = .ok 1 w := by kernel_rfl
  rw [run_sliceAt_array_all w 96 _ (by rw [len98, elem98]; exact Try.underlying96), elem98, hs, len98]
  simp [Result.andThen, slicedAt, Addr.add]
/-- A sector's bytes. -/
def secJ (m pc : List UInt8) : List UInt8 := (List.range 512).map fun j => if 504 ≤ j then m.getD (j - 504) 0 else if j < 8 then m.getD j 0 else pc.getD (j - 8) 0
theorem secJ_len (m pc : List UInt8) : (secJ m pc).length = 512 := by rw [secJ, List.length_map, List.length_range]
theorem secJ_get (m pc : List UInt8) (j : Nat) (h : j < 512) : (secJ m pc).getD j 0 = if 504 ≤ j then m.getD (j - 504) 0 else if j < 8 then m.getD j 0 else pc.getD (j - 8) 0 := by
  rw [List.getD_eq_getElem?_getD, secJ, List.getElem?_map, List.getElem?_range h]; rfl
theorem blk_by {w : World} {g T : Nat} {m : List UInt8} {c : Nat} (h : Blk w g (m.map B).toArray T) : By w (.slice (some ⟨g, 0, none⟩) m.length c) m := by
  refine ⟨_, _, _, rfl, rfl, (fun e => by cases e), fun ad e j u hu => ?_⟩
  cases e
  rw [addr_add, Nat.zero_add, h.cell j]
  simpa using hu
set_option maxRecDepth 100000 in
set_option maxHeartbeats 1600000 in
theorem sector_any {m pc : List UInt8} {v : Value} (w : World) (hm : m.length = 8) (hb : By w v pc) (hp : pc.length ≤ 496) :
    Calls Try.prog 55 #[.agg (m.map B).toArray, v] w fun e w' => ∃ v', e = .returned v' ∧ w'.ownsRow w.heap.size 5 1 v' 512 ((secJ m pc).map B) ∧ Below w.heap.size w w' := by
  obtain ⟨H, hH⟩ : ∃ H, H = w.heap.size := ⟨_, rfl⟩
  have HH : Hid (H = w.heap.size) := hH
  obtain ⟨M, hM⟩ : ∃ M, M = (m.map B).toArray := ⟨_, rfl⟩
  rw [← hM]
  obtain ⟨w1, hw1⟩ : ∃ w1, w1 = w.alloc (.cells M 96) := ⟨_, rfl⟩
  have hb1 : Below H w w1 := by rw [hw1, hH]; exact (Below.refl _ _).alloc (Nat.le_refl _) _
  have hs1 : w1.heap.size = H + 1 := by rw [hw1, World.size_alloc, hH]
  have hM1 : Blk w1 H M 96 := by rw [hw1, hH]; exact heap_alloc_new w _
  obtain ⟨R, hmk, hRs, hRa⟩ := mk_bytes 512 (by omega) w1
  rw [hs1] at hmk
  obtain ⟨w2, hw2⟩ : ∃ w2, w2 = w1.alloc (.cells R 5) := ⟨_, rfl⟩
  rw [← hw2] at hmk
  have hb2 : Below (H + 1) w1 w2 := by rw [hw2, ← hs1]; exact (Below.refl _ _).alloc (Nat.le_refl _) _
  have hR2 : Blk w2 (H + 1) R 5 := by rw [hw2, ← hs1]; exact heap_alloc_new w1 _
  have hM2 : Blk w2 H M 96 := (hb2.block H (by omega)).trans hM1
  have hbw2 : Below H w w2 := hb1.trans (hb2.mono (by omega))
  have hlt : ∀ W, Below H w W → By W v pc := fun W h => hb.keep (by rw [← hH]; exact h)
  have hby1 : ∀ W, Blk W H M 96 → By W (.slice (some ⟨H, 0, none⟩) 8 8) m := fun W h => by
    rw [hM] at h
    have := blk_by (c := 8) h
    rwa [hm] at this
  obtain ⟨w3, hcp3, ⟨D3, hD3, hs3, ha3⟩, hc3⟩ := copy_by (o := 0) (dLen := 512) (dCap := 512) hR2 (hby1 _ hM2) (by rw [hm]; omega)
  have hM3 : Blk w3 H M 96 := hc3.blk hM2 (by omega)
  have hbw3 : Below H w w3 := hbw2.trans (hc3.below (by have := hM2.lt; omega) (fun k e => by omega))
  obtain ⟨w4, hcp4, ⟨D4, hD4, hs4, ha4⟩, hc4⟩ := copy_by (o := 8) (dLen := 504) (dCap := 504) hD3 (hlt _ hbw3) (by omega)
  have hM4 : Blk w4 H M 96 := hc4.blk hM3 (by omega)
  have hbw4 : Below H w w4 := hbw3.trans (hc4.below (by have := hM3.lt; omega) (fun k e => by omega))
  have hD5 : Blk w4.drew (H + 1) D4 5 := hD4
  obtain ⟨w5, hcp5, ⟨D5, hD6, hs5, ha5⟩, hc5⟩ := copy_by (o := 504) (dLen := 8) (dCap := 8) hD5 (hby1 w4.drew hM4) (by rw [hm]; omega)
  have hbw5 : Below H w w5 := (hbw4.drew).trans (hc5.below (by have := hM4.lt; show H ≤ w4.heap.size; omega) (fun k e => by omega))
  have hown : w5.ownsRow H 5 1 (.slice (some ⟨H + 1, 0, none⟩) 512 512) 512 ((secJ m pc).map B) := own_blk hD6 (by omega) (by omega) (by unfold maxLen; omega) (fun j hj => by
    rw [secJ_get _ _ _ hj, ha5 j, hm]
    by_cases h1 : 504 ≤ j
    · rw [if_pos (by omega), if_pos h1]
    · rw [if_neg (by omega), if_neg h1, ha4 j]
      by_cases h2 : 8 ≤ j ∧ j < 8 + min pc.length 504
      · rw [if_pos h2, if_neg (by omega)]
      · rw [if_neg h2, ha3 j, hm]
        by_cases h3 : j < 8
        · rw [if_pos (by omega), if_pos h3]; rfl
        · rw [if_neg (by omega), if_neg h3, hRa j hj]
          have : pc.getD (j - 8) 0 = 0 := by rw [List.getD_eq_getElem?_getD, List.getElem?_eq_none (by omega)]; rfl
          rw [this]) (secJ_len _ _)
  have HF : Hid (w5.ownsRow H 5 1 (.slice (some ⟨H + 1, 0, none⟩) 512 512) 512 ((secJ m pc).map B) ∧ Below H w w5) := ⟨hown, hbw5⟩
  rw [hm] at hcp3 hcp5
  have hn4 : min pc.length 504 = pc.length := by omega
  rw [hn4] at hcp4
  have hmk' : (Instr.makeSlice 38 (.int .i64 512) (.int .i64 512)).run Try.prog w1 = .ok (.slice (some ⟨H + 1, 0, none⟩) 512 512) w2 := hmk
  have k3 : (Builtin.copy_ #[38, 38] 3 #[.slice (some ⟨H + 1, 0, none⟩) 512 512, .slice (some ⟨H, 0, none⟩) 8 8]).run Try.prog w2 = .ok (.int .i64 8) w3 := hcp3
  have k4 : (Builtin.copy_ #[38, 38] 3 #[.slice (some ⟨H + 1, 8, none⟩) 504 504, v]).run Try.prog w3 = .ok (.int .i64 (pc.length : Int)) w4 := hcp4
  have k5 : (Builtin.copy_ #[38, 38] 3 #[.slice (some ⟨H + 1, 504, none⟩) 8 8, .slice (some ⟨H, 0, none⟩) 8 8]).run Try.prog w4.drew = .ok (.int .i64 8) w5 := hcp5
  have s2 := fun W => slice98 H W
  have s3 := fun W => slice30o (H + 1) 0 512 512 8 (by omega) (by omega) 8 rfl W
  have s4 := fun W => slice30o (H + 1) 0 512 512 504 (by omega) (by omega) 504 rfl W
  simp only [Nat.zero_add, Nat.reduceSub] at s3 s4
  obtain ⟨vo, vn, vc, hv, _⟩ := id hb
  subst hv
  clear hb hlt hby1 hb1 hs1 hM1 hmk hRs hRa hb2 hR2 hM2 hbw2 hcp3 hD3 hs3 ha3 hc3 hM3 hbw3 hcp4 hD4 hs4 ha4 hc4 hM4 hbw4 hD5 hcp5 hD6 hs5 ha5 hc5 hbw5 hown hn4 hw2
  clear hM hm
  go_enter Try.func55, Try.ntmps55
  go_upto_region 1 with fail
  rw [← hw1, ← hH]
  clear hw1 hH
  go_wp2_with fail
  go_region
  all_goals (go_wp2_with fail; go_ret; rw [← HH.out]; exact ⟨_, rfl, HF.out.1, HF.out.2⟩)
end Go.Proofs.Ytcnokgphioigoaa
namespace Go.Proofs.Ytcnokgphioigoaa
open Go.RowKit Go.PlainAid
set_option linter.unusedVariables false
set_option linter.unusedSimpArgs false
/-- The bytes of a record in its sector at that place. -/
def pieceL (bs : List UInt8) (place : Nat) : List UInt8 := (bs.drop (place * 496)).take 496
theorem pieceL_len (bs : List UInt8) (place : Nat) : (pieceL bs place).length ≤ 496 := by unfold pieceL; rw [List.length_take]; omega
theorem slice_lh (vo : Option Addr) (n c lo hi : Nat) (h1 : lo ≤ hi) (h2 : hi ≤ c) (w : World) : (Instr.sliceAt 38 (.slice vo n c) (some (.int .i64 (lo : Int))) (some (.int .i64 (hi : Int))) none).run Try.prog w = .ok (sliced vo lo hi c 1) w := by
  have hs : (sizeOf 5).run Try.prog w = .ok 1 w := by kernel_rfl
  have he : Try.prog.elem 38 = 5 := by kernel_rfl
  have hu2 : Try.prog.underlying 38 = some (.slice (Try.prog.elem 38)) := by rw [he]; exact Try.underlying38
  rw [run_sliceAt_slice _ _ _ _ _ _ hu2, run_slice_lh _ _ _ _ _ hu2 .i64 .i64 (lo : Int) (hi : Int) (by omega) (by omega) (by omega), he, hs]
  simp [Result.andThen]
theorem by_sliced {w : World} {vo : Option Addr} {n c lo hi : Nat} {bs : List UInt8} (hb : By w (.slice vo n c) bs) (hc : n ≤ c) (h1 : lo ≤ hi) (h2 : hi ≤ n) (h3 : lo < c ∨ lo = 0) : ∃ ao, sliced vo lo hi c 1 = .slice ao (hi - lo) (c - lo) ∧ By w (.slice ao (hi - lo) (c - lo)) ((bs.drop lo).take (hi - lo)) := by
  obtain ⟨ao, k, c', e, hl, hn, ha⟩ := hb
  cases e
  have hll : ((bs.drop lo).take (hi - lo)).length = hi - lo := by rw [List.length_take, List.length_drop, hl]; omega
  cases vo with
  | none =>
    obtain ⟨e1, e2⟩ := hn rfl
    subst e1
    subst e2
    obtain rfl : hi = 0 := by omega
    obtain rfl : lo = 0 := by omega
    exact ⟨none, by simp [sliced], none, 0, 0, rfl, hll, fun _ => ⟨rfl, rfl⟩, fun ad e => by cases e⟩
  | some ad =>
    by_cases h0 : lo = 0
    · subst h0
      refine ⟨some ad, by simp [sliced, Addr.add]; try (intros; rfl), some ad, hi - 0, c - 0, rfl, hll, (fun e => by cases e), fun ad' e j u hu => ?_⟩
      cases e
      refine ha ad rfl j u ?_
      rw [List.getElem?_map] at hu ⊢
      rw [List.drop_zero, List.getElem?_take] at hu
      split at hu
      · exact hu
      · cases hu
    · have hlc : ¬ c = lo := by omega
      refine ⟨some (ad.add lo), by simp [sliced, hlc]; try omega, some (ad.add lo), hi - lo, c - lo, rfl, hll, (fun e => by cases e), fun ad' e j u hu => ?_⟩
      cases e
      rw [List.getElem?_map, List.getElem?_take] at hu
      split at hu
      · rw [List.getElem?_drop] at hu
        have := ha ad rfl (lo + j) u (by rw [List.getElem?_map]; exact hu)
        have e2 : (ad.add lo).add j = ad.add (lo + j) := by unfold Addr.add; split <;> simp_all [Nat.add_assoc]
        rw [e2]; exact this
      · cases hu
set_option maxRecDepth 100000 in
theorem part_any {vo : Option Addr} {n c place : Nat} {bs : List UInt8} (w : World) (hb : By w (.slice vo n c) bs) (hc : n ≤ c) (hn : n ≤ 8192) (hp : place < kS n) :
    Calls Try.prog 53 #[.slice vo n c, .int .i64 (place : Int)] w fun e w' => ∃ v', e = .returned v' ∧ By w v' (pieceL bs place) ∧ w' = w := by
  have hkn := kS_le n hn
  have hpl : place * 496 ≤ n ∧ (place * 496 < n ∨ place = 0) := by unfold kS at hp; omega
  have hbl : bs.length = n := by obtain ⟨_, _, _, e, e2, _⟩ := id hb; cases e; exact e2
  by_cases hcase : (place + 1) * 496 ≤ n
  · obtain ⟨ao, h1, h2⟩ := by_sliced (lo := place * 496) (hi := (place + 1) * 496) hb hc (by omega) hcase (by omega)
    have e1 : (place + 1) * 496 - place * 496 = 496 := by omega
    rw [e1] at h1 h2
    have hs := fun W => slice_lh vo n c (place * 496) ((place + 1) * 496) (by omega) (by omega) W
    rw [h1] at hs
    have e2 : ((place * 496 : Nat) : Int) = (place : Int) * 496 := by omega
    have e3 : (((place + 1) * 496 : Nat) : Int) = ((place : Int) + 1) * 496 := by omega
    rw [e2, e3] at hs
    have hle : ((place : Int) + 1) * 496 ≤ (n : Int) := by omega
    have hnlt : ¬ (n : Int) < ((place : Int) + 1) * 496 := by omega
    have HB : Hid (By w (.slice ao 496 (c - place * 496)) (pieceL bs place)) := h2
    clear hb h1 h2 e1 e2 e3 hbl
    go_enter Try.func53, Try.ntmps53
    go_wp2_with fail
    go_ret
    exact ⟨_, rfl, HB.out, rfl⟩
  · obtain ⟨ao, h1, h2⟩ := by_sliced (lo := place * 496) (hi := n) hb hc (by omega) (Nat.le_refl _) (by omega)
    have hs := fun W => slice_lh vo n c (place * 496) n (by omega) (by omega) W
    rw [h1] at hs
    have e2 : ((place * 496 : Nat) : Int) = (place : Int) * 496 := by omega
    rw [e2] at hs
    have hlt : (n : Int) < ((place : Int) + 1) * 496 := by omega
    have hpe : (bs.drop (place * 496)).take (n - place * 496) = pieceL bs place := by
      unfold pieceL
      rw [List.take_of_length_le (by rw [List.length_drop]; omega), List.take_of_length_le (by rw [List.length_drop]; omega)]
    rw [hpe] at h2
    have HB : Hid (By w (.slice ao (n - place * 496) (c - place * 496)) (pieceL bs place)) := h2
    clear hb h1 h2 e2 hbl hpe
    go_enter Try.func53, Try.ntmps53
    go_wp2_with fail
    go_ret
    exact ⟨_, rfl, HB.out, rfl⟩
set_option maxRecDepth 100000 in
theorem clone_any {vo : Option Addr} {n c : Nat} {bs : List UInt8} (w : World) (hb : By w (.slice vo n c) bs) (hn : n ≤ 8192) :
    Calls Try.prog 47 #[.slice vo n c] w fun e w' => ∃ v', e = .returned v' ∧ w'.ownsRow w.heap.size 5 1 v' n (bs.map B) ∧ Below w.heap.size w w' := by
  have hbl : bs.length = n := by obtain ⟨_, _, _, e, e2, _⟩ := id hb; cases e; exact e2
  have q38 : ∀ (w : World) (a : Option Addr) (n c n' c' : Nat), (binOp .eql 38 (.slice a n c) (.slice none n' c')).run Try.prog w = .ok (.bool a.isNone) w := fun w a n c n' c' => Lib.run_eql_slice_nil w _ _ a n c n' c' Try.underlying38
  cases vo with
  | none =>
    obtain ⟨_, _, _, e, e2, e3, _⟩ := id hb
    cases e
    obtain ⟨rfl, rfl⟩ := e3 rfl
    obtain rfl : bs = [] := List.eq_nil_of_length_eq_zero hbl
    clear hb e2 e3
    go_enter Try.func47, Try.ntmps47
    go_wp2_with fail
    go_ret
    exact ⟨_, rfl, World.ownsRow_nil _ _ _ _, Below.refl _ _⟩
  | some ad =>
    obtain ⟨H, hH⟩ : ∃ H, H = w.heap.size := ⟨_, rfl⟩
    obtain ⟨w1, hw1⟩ : ∃ w1, w1 = w.alloc (.cells #[] 5) := ⟨_, rfl⟩
    have hb1 : Below H w w1 := by rw [hw1, hH]; exact (Below.refl _ _).alloc (Nat.le_refl _) _
    have hB1 : Blk w1 H #[] 5 := by rw [hw1, hH]; exact heap_alloc_new w _
    have ho1 : w1.ownsRow H 5 1 (.slice (some ⟨H, 0, none⟩) 0 0) 0 [] := own_blk (bs := []) hB1 (Nat.le_refl _) rfl (by unfold maxLen; omega) (fun j hj => by omega) rfl
    have hby := hb.keep (by rw [← hH]; exact hb1)
    obtain ⟨ao', k', c', e, hl', hn', ha'⟩ := hby
    cases e
    obtain ⟨v2, w2, hr2, ho2, hg2⟩ := app_rows (w := w1) 38 5 (.int .u8 0) 1 1 Try.underlying38 info5' rfl (by decide) (by decide) ho1 (ao := some ad) (m := n) (cap := c) (ys := bs.map B) (by simp [hbl]) (fun e => by cases e) ha' (oneB bs) (by omega) (by have := hB1.lt; omega)
    rw [Nat.zero_add, List.nil_append] at ho2
    have HF : Hid (w2.ownsRow H 5 1 v2 n (bs.map B) ∧ Below H w w2) := ⟨ho2, hb1.trans (hg2.below (fun q hq => by cases hq; exact Nat.le_refl _) (by have := hB1.lt; omega))⟩
    have HR : Hid (∀ ty, (Builtin.append_ #[38, 38] ty #[.slice (some ⟨H, 0, none⟩) 0 0, .slice (some ad) n c]).run Try.prog w1 = .ok v2 w2) := hr2
    rw [← hH]
    clear hb hb1 hB1 ho1 hl' hn' ha' hr2 ho2 hg2 hbl
    go_enter Try.func47, Try.ntmps47
    go_upto_region 3 with fail
    go_wp2_with (at_builtin; rw [← hw1, ← hH]; refine wpList_runs rfl _ _ 38 rfl rfl rfl HR.out ?_)
    go_ret
    exact ⟨_, rfl, HF.out.1, HF.out.2⟩
end Go.Proofs.Ytcnokgphioigoaa
namespace Go.Proofs.Ytcnokgphioigoaa
open Go.RowKit Go.PlainAid
set_option linter.unusedVariables false
set_option linter.unusedSimpArgs false
def JV.added (y : JV) (rv' v : Value) (bs : List UInt8) : JV := { y with rv := rv', recs := y.recs ++ [(v, bs)], next := y.next + kS bs.length }
set_option maxRecDepth 100000 in
set_option maxHeartbeats 1600000 in
theorem add_any {L jb : Nat} {y : JV} {R : List (Ent L)} {vo : Option Addr} {n c : Nat} {bs : List UInt8} (w : World) (h : Held (y.es L jb ++ (datE L (.slice vo n c, bs) :: R)) w) (hl : bs.length = n) (hn : n ≤ 8192) (hr : y.recs.length ≤ 1000) (hx : y.next ≤ 100000) :
    Calls Try.prog 36 #[.pointer (some ⟨jb, 0, none⟩), .slice vo n c] w fun e w' => e = .returned (.tuple #[]) ∧ ∃ rv', Held ((y.added rv' (.slice vo n c) bs).es L jb ++ R) w' ∧ Chg (fun k => k = jb ∨ y.rv.ownBlock = some k) w w' := by
  obtain ⟨ro, rc, hrv⟩ := tail_val (jrow h)
  have hL := jlow h
  have h1 : Held (tailE L 38 y.rv y.recs.length (y.recs.map Prod.fst) :: boxE L jb y.cs 79 :: (y.recs.map (datE L) ++ (datE L (.slice vo n c, bs) :: R))) w := Held.perm (show Held (boxE L jb y.cs 79 :: tailE L 38 y.rv y.recs.length (y.recs.map Prod.fst) :: (y.recs.map (datE L) ++ (datE L (.slice vo n c, bs) :: R))) w by simpa [JV.es] using h) (List.Perm.swap ..)
  have c1 : w.cell? ⟨jb, 1, none⟩ = some (.slice ro y.recs.length rc) := ((jbox h).cell 1).trans (congrArg some hrv)
  have hlen : y.recs.length + 1 ≤ 1001 := by omega
  obtain ⟨v2, w2, hr2, hH2, hc2, ⟨ao2, cc2, hv2⟩, hat2⟩ := h1.tailApp (t := 30) Try.underlying30 info30 rfl (.slice vo n c) rfl (by omega) (by omega) hL
  have h3 := hH2.perm (List.Perm.swap ..)
  have d1 : w2.cell? ⟨jb, 1, none⟩ = some (.slice ro y.recs.length rc) := (h3.boxB.cell 1).trans (congrArg some hrv)
  have f1 : w2.frozen? ⟨jb, 1, none⟩ = false := h3.boxB.frozen 1
  have h4 := h3.boxSet 1 v2
  obtain ⟨X, hX⟩ : ∃ X, X = w2.setCell ⟨jb, 1, none⟩ v2 := ⟨_, rfl⟩
  rw [← hX] at h4
  have hcX : Chg (fun k => k = jb ∨ y.rv.ownBlock = some k) w X := by
    rw [hX]
    exact (hc2.mono (B := fun k => k = jb ∨ y.rv.ownBlock = some k) (fun _ _ e => Or.inr e)).trans (setCell_chg _ _ _ _) (fun _ _ e => Or.inl e)
  have c2 : X.cell? ⟨jb, 2, none⟩ = some (.int .i64 (y.next : Int)) := h4.boxB.cell 2
  have f2 : X.frozen? ⟨jb, 2, none⟩ = false := h4.boxB.frozen 2
  have HF : Hid (∀ q, Held ((y.added v2 (.slice vo n c) bs).es L jb ++ R) ((X.drewN q).setCell ⟨jb, 2, none⟩ (.int .i64 ((y.next : Int) + (kS n : Int)))) ∧ Chg (fun k => k = jb ∨ y.rv.ownBlock = some k) w ((X.drewN q).setCell ⟨jb, 2, none⟩ (.int .i64 ((y.next : Int) + (kS n : Int))))) := fun q => by
    have h5 := (h4.drewN q).boxSet 2 (.int .i64 ((y.next : Int) + (kS n : Int)))
    refine ⟨?_, (hcX.drewN q).trans (setCell_chg _ _ _ _) (fun _ _ e => Or.inl e)⟩
    have e : (y.added v2 (.slice vo n c) bs).es L jb ++ R = boxE L jb ((y.cs.setIfInBounds 1 v2).setIfInBounds 2 (.int .i64 ((y.next : Int) + (kS n : Int)))) 79 :: tailE L 38 v2 (y.recs.length + 1) (y.recs.map Prod.fst ++ [.slice vo n c]) :: (y.recs.map (datE L) ++ (datE L (.slice vo n c, bs) :: R)) := by
      simp [JV.es, JV.added, JV.cs, hl]
    rw [e]
    exact h5
  have HR : Hid (∀ ty, (Builtin.append_ #[30, 30] ty #[.slice ro y.recs.length rc, .slice (some ⟨w.heap.size, 0, none⟩) 1 1]).run Try.prog (w.alloc (.cells #[.slice vo n c] 38)) = .ok v2 w2) := fun ty => by rw [← hrv]; exact hr2 ty
  have HK : Hid (∀ W : World, Calls Try.prog 39 #[.int .i64 (n : Int)] W fun e w' => e = .returned (.int .i64 (kS n : Int)) ∧ w' = W) := fun W => kS_any n W (by omega)
  have hkn := kS_le n hn
  obtain ⟨k, hk⟩ : ∃ k, k = kS n := ⟨_, rfl⟩
  rw [← hk] at HF HK hkn
  obtain ⟨nx, hnx⟩ : ∃ nx, nx = y.next := ⟨_, rfl⟩
  rw [← hnx] at HF hx c2
  subst hv2
  clear h h1 hr2 hH2 hc2 hat2 h3 h4 hcX hrv hk hnx hL
  go_enter Try.func36, Try.ntmps36
  go_upto_region 1 with (at_builtin; refine wpList_runs rfl _ _ 30 rfl rfl rfl HR.out ?_)
  rw [← hX]
  clear hX c1 d1 f1 HR
  go_region_with (go_at_call 39; refine (HK.out _).mono ?_; rintro e wk ⟨rfl, rfl⟩)
  all_goals
    have e9 : IntKind.i64.wrap ((nx : Int) + (k : Int)) = (nx : Int) + (k : Int) := by rw [IntKind.wrap_i64]; omega
    rw [e9]
    go_wp2_with fail
    refine bodyPost_end (results_none rfl _ _ _) rfl ?_
    exact ⟨rfl, _, (HF.out 1).1, (HF.out 1).2⟩
end Go.Proofs.Ytcnokgphioigoaa
namespace Go.Proofs.Ytcnokgphioigoaa
open Go.RowKit Go.PlainAid
set_option linter.unusedVariables false
set_option linter.unusedSimpArgs false
/-- A disk behind some of a record's sectors. -/
def wroteX (x : DV) (num next : Nat) (bs : List UInt8) : Nat → DV
  | 0 => x
  | i + 1 => ((wroteX x num next bs i).noted (next + i)).dec.put (next + i) 512 (secJ (markL num i bs.length) (pieceL bs i))
theorem wroteX_facts (x : DV) (num next : Nat) (bs : List UInt8) (ha : x.armed = false) : ∀ i, (wroteX x num next bs i).off = x.off ∧ (wroteX x num next bs i).n = x.n ∧ (wroteX x num next bs i).armed = false ∧ (wroteX x num next bs i).whole = x.whole ∧ (wroteX x num next bs i).writes = x.writes + i
  | 0 => ⟨rfl, rfl, ha, rfl, rfl⟩
  | i + 1 => by
    obtain ⟨h1, h2, h3, h4, h5⟩ := wroteX_facts x num next bs ha i
    have e : ((wroteX x num next bs i).noted (next + i)).dec = (wroteX x num next bs i).noted (next + i) := by
      unfold DV.dec
      rw [if_neg]
      show ¬ (wroteX x num next bs i).armed = true
      rw [h3]; simp
    refine ⟨?_, ?_, ?_, ?_, ?_⟩
    · show (((wroteX x num next bs i).noted (next + i)).dec.put (next + i) 512 _).off = _
      rw [e]; exact h1
    · show (((wroteX x num next bs i).noted (next + i)).dec.put (next + i) 512 _).n = _
      rw [e]; exact h2
    · show (((wroteX x num next bs i).noted (next + i)).dec.put (next + i) 512 _).armed = _
      rw [e]; exact h3
    · show (((wroteX x num next bs i).noted (next + i)).dec.put (next + i) 512 _).whole = _
      rw [e]; exact h4
    · show (((wroteX x num next bs i).noted (next + i)).dec.put (next + i) 512 _).writes = _
      rw [e]
      show (wroteX x num next bs i).writes + 1 = _
      omega
theorem held_disk {L p s : Nat} {x x' : DV} {es R : List (Ent L)} {w w' : World} (h : Held (es ++ (dmE L p s x :: R)) w) (hd : DM L p s x' w') (hc : Chg (down p s) w w') : Held (es ++ (dmE L p s x' :: R)) w' :=
  Held.at (e := dmE L p s x) (e' := dmE L p s x') h hc hd (fun k hk => Or.inl hk)
theorem Held.below2 {L : Nat} {es : List (Ent L)} {w w' : World} {A : Nat → Prop} (h : Held es w) (hL : L ≤ w.heap.size) (hc : Chg A w w') (hA : ∀ k, A k → has es k) : Below L w w' := hc.below hL (fun k hk => (h.typ (hA k hk)).1)
theorem below_dr {L : Nat} {w w' : World} (h : Below L w w') (q : Nat) : Below L w (w'.drewN q) := ⟨h.os, h.tape, h.output, h.size, h.block⟩
theorem h1d {L p s : Nat} {x : DV} {es R : List (Ent L)} {w : World} (h : Held (es ++ (dmE L p s x :: R)) w) : DM L p s x w := h.all (dmE L p s x) (by simp)
theorem Held.tailR {L : Nat} {es R : List (Ent L)} {w : World} (h : Held (es ++ R) w) : Held R w := ⟨fun e he => h.all e (List.mem_append_right _ he), (List.pairwise_append.1 h.dj).2.1⟩
set_option maxRecDepth 100000 in
set_option maxHeartbeats 3200000 in
theorem jwrite_yes {L jb s : Nat} {y : JV} {x : DV} {R : List (Ent L)} {vo : Option Addr} {n c : Nat} {bs : List UInt8} (w : World) (h : Held (y.es L jb ++ (dmE L y.p s x :: R)) w) (hb : ∀ W, Below L w W → Held R W → By W (.slice vo n c) bs) (hc : n ≤ c) (hn : n ≤ 8192) (ho : x.off = false) (ha : x.armed = false) (hwh : x.whole ≤ 9223372036854775807) (hwr : x.writes ≤ 900000000000000000) (hr : y.recs.length ≤ 1000) (hx : y.next + kS n ≤ x.n) (hxn : x.n ≤ 65536) :
    Calls Try.prog 40 #[.pointer (some ⟨jb, 0, none⟩), .slice vo n c] w fun e w' => e = .returned (.int .i64 0) ∧ ∃ rv' v', Held ((y.added rv' v' bs).es L jb ++ (dmE L y.p s (wroteX x (y.recs.length + 1) y.next bs (kS n)) :: R)) w' ∧ Below L w w' := by
  have hkn := kS_le n hn
  have hL := jlow h
  have hbl : bs.length = n := by
    have hR : Held R w := Held.drop (Held.tailR h)
    obtain ⟨_, _, _, e, e2, _⟩ := hb w (Below.refl _ _) hR
    cases e; exact e2
  obtain ⟨k, hk⟩ : ∃ k, k = kS n := ⟨_, rfl⟩
  have HKN : Hid (k = kS n) := hk
  have HBL : Hid (bs.length = n ∧ n ≤ c ∧ n ≤ 8192) := ⟨hbl, hc, hn⟩
  have HBY : Hid (∀ W, Below L w W → Held R W → By W (.slice vo n c) bs) := hb
  have HK : Hid (∀ W : World, Calls Try.prog 39 #[.int .i64 (n : Int)] W fun e w' => e = .returned (.int .i64 (k : Int)) ∧ w' = W) := fun W => by rw [hk]; exact kS_any n W (by omega)
  have HX : Hid (∀ i, (wroteX x (y.recs.length + 1) y.next bs i).off = false ∧ (wroteX x (y.recs.length + 1) y.next bs i).n = x.n ∧ (wroteX x (y.recs.length + 1) y.next bs i).armed = false ∧ (wroteX x (y.recs.length + 1) y.next bs i).whole = x.whole ∧ (wroteX x (y.recs.length + 1) y.next bs i).writes = x.writes + i) := fun i => by
    have := wroteX_facts x (y.recs.length + 1) y.next bs ha i
    rwa [ho] at this
  have HB : Hid (x.whole ≤ 9223372036854775807 ∧ x.writes ≤ 900000000000000000 ∧ y.recs.length ≤ 1000 ∧ y.next + k ≤ x.n ∧ x.n ≤ 65536 ∧ k ≤ 17) := ⟨hwh, hwr, hr, by rw [hk]; exact hx, hxn, by rw [hk]; exact hkn⟩
  have HH : Hid (Held (y.es L jb ++ (dmE L y.p s x :: R)) w) := h
  have hkk : k ≤ 17 := HB.out.2.2.2.2.2
  rw [← hk]
  clear h hb hc hn ho ha hwh hwr hr hx hxn hbl hk hkn
  go_enter Try.func40, Try.ntmps40
  go_wp2_with fail
  refine Calls.mono (HK.out _) ?_
  rintro e wk ⟨rfl, hwk⟩
  replace hwk := hwk.symm
  subst hwk
  clear HK
  go_wp2_with fail
  go_loopw [10] (fun s10 wr => ∃ i : Nat, i ≤ k ∧ s10 = .int .i64 (i : Int) ∧ Held (y.es L jb ++ (dmE L y.p s (wroteX x (y.recs.length + 1) y.next bs i) :: R)) wr ∧ Below L w wr) (fun s10 _ => k - (intOf s10).toNat)
  case atStart => exact ⟨0, Nat.zero_le _, rfl, HH.out, Below.refl _ _⟩
  case round =>
    clear HH
    obtain ⟨i, hi, rfl, hH, hb⟩ := hrel
    have hBd := HB.out
    have hbl := HBL.out
    by_cases hlt : i < k
    · have HN : Hid _ := number_any wr hH (by omega)
      have HM : Hid (∀ W, Calls Try.prog 51 #[.int .i64 ((y.recs.length + 1 : Nat) : Int), .int .i64 (i : Int), .int .i64 (n : Int)] W fun e w' => e = .returned (.agg (markA (y.recs.length + 1) i n)) ∧ Below W.heap.size W w') := fun W => mark_any (y.recs.length + 1) i n W (by omega) (by omega) hbl.2.2
      have HHH : Hid (Held (y.es L jb ++ (dmE L y.p s (wroteX x (y.recs.length + 1) y.next bs i) :: R)) wr ∧ Below L w wr) := ⟨hH, hb⟩
      have hlw : L ≤ wr.heap.size := jlow hH
      clear hH hb
      obtain ⟨num, hnum⟩ : ∃ num, num = y.recs.length + 1 := ⟨_, rfl⟩
      rw [← hnum] at HN HM
      have HNU : Hid (num = y.recs.length + 1) := hnum
      clear hnum hBd hbl
      go_wp2_with fail
      refine Calls.mono HN.out ?_
      rintro e w1 ⟨rfl, hw1⟩
      replace hw1 := hw1.symm
      subst hw1
      clear HN
      go_wp2_with fail
      refine Calls.mono (HM.out _) ?_
      rintro e w1 ⟨rfl, hb1⟩
      clear HM
      have hb1' : Below L wr w1 := hb1.mono hlw
      have h1 := HHH.out.1.more hb1
      have hR1 : Held R w1 := Held.drop (Held.tailR h1)
      have hby1 := HBY.out w1 (HHH.out.2.trans hb1') hR1
      have HP : Hid _ := part_any (place := i) w1 hby1 HBL.out.2.1 HBL.out.2.2 (by rw [← HKN.out]; exact hlt)
      have H1 : Hid (Held (y.es L jb ++ (dmE L y.p s (wroteX x (y.recs.length + 1) y.next bs i) :: R)) w1 ∧ Below L w w1) := ⟨h1, HHH.out.2.trans hb1'⟩
      clear hb1 hb1' h1 hR1 hby1 HHH hlw
      have e3 : markA num i n = ((markL num i n).map B).toArray := rfl
      rw [e3]
      clear e3
      go_wp2_with fail
      refine Calls.mono HP.out ?_
      rintro e w2 ⟨pv, rfl, hpb, hw2⟩
      replace hw2 := hw2.symm
      subst hw2
      clear HP
      have HSC : Hid _ := sector_any (m := markL num i n) w1 (markL_len _ _ _) hpb (pieceL_len bs i)
      clear hpb
      go_wp2_with fail
      refine Calls.mono HSC.out ?_
      rintro e w3 ⟨sv, rfl, hsr, hb3⟩
      clear HSC
      have hlw : L ≤ w1.heap.size := jlow H1.out.1
      have h3 := H1.out.1.more hb3
      have hb3' : Below L w w3 := H1.out.2.trans (hb3.mono hlw)
      have hd3 : DM L y.p s (wroteX x (y.recs.length + 1) y.next bs i) w3 := h3.all (dmE L y.p s (wroteX x (y.recs.length + 1) y.next bs i)) (by simp)
      have c0 : w3.cell? ⟨jb, 0, none⟩ = some (.pointer (some ⟨y.p, 0, none⟩)) := (jbox h3).cell 0
      have c2 : w3.cell? ⟨jb, 2, none⟩ = some (.int .i64 (y.next : Int)) := (jbox h3).cell 2
      obtain ⟨sao, sc, hsv, hsc⟩ := own_slice hsr
      have hx := HX.out i
      have hB := HB.out
      have hnp : ∀ ad k c, sv = .slice (some ad) k c → ad.block ≠ y.p := fun ad k c e => by
        have h5 : sv.ownBlock = some ad.block := by rw [e]; rfl
        have h6 := (ownsRow_lt hsr h5).1
        have h7 := (((h1d H1.out.1).lt (Or.inl rfl)).2 : y.p < w1.heap.size)
        omega
      have HWR : Hid (∀ W, Below w3.heap.size w3 W → Calls Try.prog 56 #[.pointer (some ⟨y.p, 0, none⟩), .int .i64 ((y.next : Int) + (i : Int)), sv] W fun e w' => e = .returned (.int .i64 0) ∧ DM L y.p s (wroteX x (y.recs.length + 1) y.next bs (i + 1)) w' ∧ Chg (down y.p s) w3 w') := fun W hW => by
        have h5 := write_whole (y.next + i) W (hd3.more hW) hx.1 (by rw [hx.2.1]; omega) (secJ_len _ _) ((own_by (by rw [secJ_len]; exact hsr)).keep hW) hnp (fun e => by rw [hx.2.2.1] at e; cases e) (by rw [hx.2.2.2.1]; exact hB.1) (by rw [hx.2.2.2.2]; omega)
        rw [show ((y.next + i : Nat) : Int) = (y.next : Int) + (i : Int) by omega] at h5
        refine h5.mono ?_
        rintro e w' ⟨k1, k2, k3⟩
        refine ⟨k1, ?_, ((Chg.ofBelow (down y.p s) hW).trans k3 (fun _ _ e => e))⟩
        have : wroteX x (y.recs.length + 1) y.next bs (i + 1) = ((wroteX x (y.recs.length + 1) y.next bs i).noted (y.next + i)).dec.put (y.next + i) 512 (secJ (markL (y.recs.length + 1) i bs.length) (pieceL bs i)) := rfl
        rw [this, HBL.out.1]
        rw [HNU.out] at k2
        exact k2
      have H3 : Hid (Held (y.es L jb ++ (dmE L y.p s (wroteX x (y.recs.length + 1) y.next bs i) :: R)) w3 ∧ Below L w w3 ∧ L ≤ w3.heap.size) := ⟨h3, hb3', Nat.le_trans hlw hb3.size⟩
      have hnx : y.next ≤ 65536 := by omega
      obtain ⟨nx, hnx'⟩ : ∃ nx, nx = y.next := ⟨_, rfl⟩
      have E9 : Hid (IntKind.i64.wrap ((nx : Int) + (i : Int)) = (y.next : Int) + (i : Int)) := by rw [Hid, IntKind.wrap_i64, hnx']; omega
      rw [← hnx'] at c2 hnx
      subst hsv
      clear H1 hsr hb3 h3 hb3' hd3 hx hB hnp hnx' hsc hlw
      go_wp2_with fail
      go_region_with (go_at_call 56; rw [E9.out]; refine (HWR.out _ (by first | exact Below.refl _ _ | exact (Below.refl _ _).drew)).mono ?_; rintro e w4 ⟨rfl, hd4, hc4⟩)
      all_goals
        have HN2 : Hid (Held (y.es L jb ++ (dmE L y.p s (wroteX x (y.recs.length + 1) y.next bs (i + 1)) :: R)) w4 ∧ Below L w w4) := ⟨held_disk H3.out.1 hd4 hc4, H3.out.2.1.trans (hc4.below H3.out.2.2 (fun k hk => ((h1d H3.out.1).lt hk).1))⟩
        clear hd4 hc4 HWR H3
        go_wp2_with fail
        go_roundw
        case rel => exact ⟨i + 1, by omega, by go_num, by first | exact ⟨HN2.out.1, HN2.out.2⟩ | exact ⟨HN2.out.1.drewN 1, below_dr HN2.out.2 1⟩⟩
        case measure => simp [intOf]; omega
    · have hin : ¬ ((i : Int) < (k : Int)) := by omega
      have hik : i = k := by omega
      rw [hik] at hH
      have hR : Held R wr := Held.drop (Held.tailR hH)
      have HCL : Hid _ := clone_any wr (HBY.out wr hb hR) hbl.2.2
      have HH : Hid (Held (y.es L jb ++ (dmE L y.p s (wroteX x (y.recs.length + 1) y.next bs k) :: R)) wr ∧ Below L w wr ∧ L ≤ wr.heap.size) := ⟨hH, hb, jlow hH⟩
      clear hH hb hR hik hBd hbl
      go_wp2_with fail
      refine Calls.mono HCL.out ?_
      rintro e w1 ⟨cv, rfl, hcr, hb1⟩
      clear HCL
      obtain ⟨co, cc, hcv, hcc⟩ := own_slice hcr
      subst hcv
      have h2 : Held (y.es L jb ++ (datE L (.slice co n cc, bs) :: dmE L y.p s (wroteX x (y.recs.length + 1) y.next bs k) :: R)) w1 := by
        have h3 : Held (datE L (.slice co n cc, bs) :: (y.es L jb ++ (dmE L y.p s (wroteX x (y.recs.length + 1) y.next bs k) :: R))) w1 := Held.fresh HH.out.1 hb1 (show w1.ownsRow L 5 1 (.slice co n cc) bs.length (bs.map B) by rw [HBL.out.1]; exact ownsRow_mono hcr HH.out.2.2) (fun k hk => (ownsRow_lt hcr hk).1)
        exact h3.perm List.perm_middle.symm
      have hB := HB.out
      have HA : Hid _ := add_any w1 h2 HBL.out.1 HBL.out.2.2 hB.2.2.1 (by omega)
      have H2 : Hid (Held (y.es L jb ++ (datE L (.slice co n cc, bs) :: dmE L y.p s (wroteX x (y.recs.length + 1) y.next bs k) :: R)) w1 ∧ Below L w w1) := ⟨h2, HH.out.2.1.trans (hb1.mono HH.out.2.2)⟩
      clear hcr hb1 h2 hB HH hcc
      go_wp2_with fail
      refine Calls.mono HA.out ?_
      rintro e w2 ⟨rfl, rv', h3, hc3⟩
      have HF : Hid (∃ rv' v', Held ((y.added rv' v' bs).es L jb ++ (dmE L y.p s (wroteX x (y.recs.length + 1) y.next bs k) :: R)) w2 ∧ Below L w w2) := ⟨rv', _, h3, H2.out.2.trans (Held.below2 H2.out.1 (jlow H2.out.1) hc3 (fun q hq => by
        rcases hq with e | e
        · exact ⟨boxE L jb y.cs 79, by simp [JV.es], e⟩
        · exact ⟨tailE L 38 y.rv y.recs.length (y.recs.map Prod.fst), by simp [JV.es], e⟩))⟩
      clear HA h3 hc3 H2
      go_wp2_with fail
      go_ret
      obtain ⟨rv', v', h4, h5⟩ := HF.out
      first
        | exact ⟨rfl, rv', v', h4, h5⟩
        | (refine ⟨rfl, rv', v', ?_, h5⟩; rw [← HKN.out]; exact h4)
end Go.Proofs.Ytcnokgphioigoaa
namespace Go.Proofs.Ytcnokgphioigoaa
open Go.RowKit Go.PlainAid
set_option linter.unusedVariables false
set_option linter.unusedSimpArgs false
set_option maxRecDepth 100000 in
/-- The deferred function where nothing has gone down. -/
theorem late_any (a b : Nat) (z : Int) (hz : z ≠ 200) (u : FrameMode) (w : World) (h : w.cell? ⟨a, 0, none⟩ = some (.int .i64 z)) : CallsD Try.prog 37 #[.pointer (some ⟨a, 0, none⟩), .pointer (some ⟨b, 0, none⟩)] u w fun e u' w' => u' = u ∧ (e = .returned (.tuple #[]) ∧ w' = w) := by
  go_enter_d Try.func37, Try.ntmps37
  go_wp2_with fail
  first
    | (go_end0; exact ⟨rfl, rfl⟩)
    | (refine bodyPost_end (results_none rfl _ _ _) rfl ?_; exact ⟨rfl, rfl⟩)
theorem Held.subl {L : Nat} {es es' : List (Ent L)} {w : World} (h : Held es w) (hs : List.Sublist es' es) : Held es' w := ⟨fun e he => h.all e (hs.subset he), h.dj.sublist hs⟩
set_option maxRecDepth 100000 in
set_option maxHeartbeats 3200000 in
theorem append_ok {L jb s : Nat} {y : JV} {x : DV} {R : List (Ent L)} {vo : Option Addr} {n c : Nat} {bs : List UInt8} (w : World) (h : Held (y.es L jb ++ (dmE L y.p s x :: R)) w) (hb : ∀ W, Below L w W → Held R W → By W (.slice vo n c) bs) (hc : n ≤ c) (hn : n ≤ 8192) (ho : x.off = false) (ha : x.armed = false) (hwh : x.whole ≤ 9223372036854775807) (hwr : x.writes ≤ 900000000000000000) (hr : y.recs.length ≤ 1000) (hx : y.next + kS n ≤ y.fin) (hf : y.fin = x.n) (hxn : x.n ≤ 65536) :
    Calls Try.prog 16 #[.pointer (some ⟨jb, 0, none⟩), .slice vo n c] w fun e w' => e = .returned (.int .i64 0) ∧ ∃ rv' v', Held ((y.added rv' v' bs).es L jb ++ (dmE L y.p s (wroteX x (y.recs.length + 1) y.next bs (kS n)) :: R)) w' ∧ Below L w w' := by
  have hmf : ∀ (fn : Fn) (first cap : Array Value) (w : World), (Instr.makeFunc fn first cap).run Try.prog w = .ok (.func fn first cap) w := fun _ _ _ _ => rfl
  obtain ⟨H, hH⟩ : ∃ H, H = w.heap.size := ⟨_, rfl⟩
  have hL := jlow h
  obtain ⟨w1, hw1⟩ : ∃ w1, w1 = (w.alloc (.cells #[.pointer (some ⟨jb, 0, none⟩)] 31)).alloc (.cells #[.int .i64 0] 25) := ⟨_, rfl⟩
  have hb1 : Below H w w1 := by rw [hw1, hH]; exact ((Below.refl _ _).alloc (Nat.le_refl _) _).alloc (by rw [World.size_alloc]; omega) _
  have hB0 : Blk w1 H #[.pointer (some ⟨jb, 0, none⟩)] 31 := by rw [hw1, hH]; exact heap_alloc2_old w _ _
  have hB1 : Blk w1 (H + 1) #[.int .i64 0] 25 := by rw [hw1, hH]; exact heap_alloc2_new w _ _
  have h1 : Held (y.es L jb ++ (dmE L y.p s x :: boxE L H #[.pointer (some ⟨jb, 0, none⟩)] 31 :: boxE L (H + 1) #[.int .i64 0] 25 :: R)) w1 := by
    have hw : Below w.heap.size w w1 := by rw [← hH]; exact hb1
    have h2 : Held (boxE L H #[.pointer (some ⟨jb, 0, none⟩)] 31 :: (y.es L jb ++ (dmE L y.p s x :: R))) w1 := Held.fresh h hw ⟨hB0, by rw [hH]; exact hL⟩ (fun k hk => by have : k = H := hk; omega)
    have h3 : Held (boxE L (H + 1) #[.int .i64 0] 25 :: boxE L H #[.pointer (some ⟨jb, 0, none⟩)] 31 :: (y.es L jb ++ (dmE L y.p s x :: R))) w1 := h2.add ⟨hB1, by omega⟩ (fun k hk hh => by
      have hk' : k = H + 1 := hk
      rcases has_cons.1 hh with e | e
      · have : k = H := e
        omega
      · have := (h.typ e).2
        omega)
    have hp : (boxE L (H + 1) #[.int .i64 0] 25 :: boxE L H #[.pointer (some ⟨jb, 0, none⟩)] 31 :: (y.es L jb ++ (dmE L y.p s x :: R))).Perm (y.es L jb ++ (dmE L y.p s x :: boxE L H #[.pointer (some ⟨jb, 0, none⟩)] 31 :: boxE L (H + 1) #[.int .i64 0] 25 :: R)) := by
      refine (List.Perm.swap ..).trans ?_
      have e1 : ([boxE L H #[.pointer (some ⟨jb, 0, none⟩)] 31, boxE L (H + 1) #[.int .i64 0] 25] ++ ((y.es L jb ++ [dmE L y.p s x]) ++ R)).Perm ((y.es L jb ++ [dmE L y.p s x]) ++ ([boxE L H #[.pointer (some ⟨jb, 0, none⟩)] 31, boxE L (H + 1) #[.int .i64 0] 25] ++ R)) := by
        rw [← List.append_assoc, ← List.append_assoc (y.es L jb ++ [dmE L y.p s x])]
        exact List.Perm.append_right _ List.perm_append_comm
      simpa [List.append_assoc] using e1
    exact h3.perm hp
  have hkn := kS_le n hn
  have HW : Hid (∀ X : World, (∃ q, X = w1.drewN q) → Calls Try.prog 40 #[.pointer (some ⟨jb, 0, none⟩), .slice vo n c] X fun e w' => e = .returned (.int .i64 0) ∧ ∃ rv' v', Held ((y.added rv' v' bs).es L jb ++ (dmE L y.p s (wroteX x (y.recs.length + 1) y.next bs (kS n)) :: boxE L H #[.pointer (some ⟨jb, 0, none⟩)] 31 :: boxE L (H + 1) #[.int .i64 0] 25 :: R)) w' ∧ Below L w1 w') := fun X hX => by
    obtain ⟨q, rfl⟩ := hX
    refine (jwrite_yes (R := boxE L H #[.pointer (some ⟨jb, 0, none⟩)] 31 :: boxE L (H + 1) #[.int .i64 0] 25 :: R) (w1.drewN q) (h1.drewN q) (fun W h5 h6 => hb W (((hb1.mono (by omega)).trans (below_dr (Below.refl _ _) q)).trans h5) h6.drop.drop) hc hn ho ha hwh hwr hr (by rw [← hf]; exact hx) hxn).mono ?_
    rintro e w' ⟨e1, rv', v', e2, e3⟩
    exact ⟨e1, rv', v', e2, (below_dr (Below.refl _ _) q).trans e3⟩
  have HON : Hid _ := isOn_any w1 (h1d h1)
  rw [ho] at HON
  have HRM : Hid (∀ q, Calls Try.prog 18 #[.pointer (some ⟨jb, 0, none⟩)] (w1.drewN q) fun e w' => e = .returned (.int .i64 ((y.fin - y.next : Nat) : Int)) ∧ ∃ m, w' = (w1.drewN q).drewN m) := fun q => room_any (w1.drewN q) (h1.drewN q) (by have := kS_pos n; omega) (by omega)
  have HK : Hid (∀ q, Calls Try.prog 39 #[.int .i64 (n : Int)] (w1.drewN q) fun e w' => e = .returned (.int .i64 (kS n : Int)) ∧ w' = (w1.drewN q)) := fun q => kS_any n _ (by omega)
  have c4 : w1.cell? ⟨jb, 4, none⟩ = some (.bool false) := (jbox h1).cell 4
  have c0 : w1.cell? ⟨jb, 0, none⟩ = some (.pointer (some ⟨y.p, 0, none⟩)) := (jbox h1).cell 0
  have b0 : w1.cell? ⟨H, 0, none⟩ = some (.pointer (some ⟨jb, 0, none⟩)) := hB0.cell 0
  have hroom : (kS n : Int) ≤ ((y.fin - y.next : Nat) : Int) := by omega
  obtain ⟨rm, hrm⟩ : ∃ rm : Int, rm = ((y.fin - y.next : Nat) : Int) := ⟨_, rfl⟩
  obtain ⟨k, hk⟩ : ∃ k : Int, k = (kS n : Int) := ⟨_, rfl⟩
  have hroom' : ¬ rm < k := by rw [hrm, hk]; omega
  rw [← hrm] at HRM
  rw [← hk] at HK
  have HBB : Hid (Below L w w1 ∧ H ≤ w1.heap.size) := ⟨hb1.mono (by omega), Nat.le_trans (by omega) hb1.size⟩
  have HHH : Hid (H = w.heap.size) := hH
  have hn' : ¬ (8192 : Int) < (n : Int) := by omega
  clear h hb h1 hB0 hB1 hb1 hL hroom hrm hk ho ha hwh hwr hr hx hf hxn
  go_enter_defers Try.func16, Try.ntmps16
  go_upto_region 2 with fail
  rw [← hw1, ← hH]
  clear hw1 hH
  go_wp2_with fail
  refine Calls.mono HON.out ?_
  rintro e wo ⟨rfl, hwo⟩
  replace hwo := hwo.symm
  subst hwo
  clear HON c4 c0
  go_wp2_with fail
  go_quiet (first | (go_at_call 39; refine Calls.quiet_of_same (HK.out _)) | (go_at_call 18; refine Calls.quiet_of (HRM.out _)))
  have HW1 : Hid _ := HW.out (w1.drewN nq) ⟨nq, rfl⟩
  have b1 : (w1.drewN nq).cell? ⟨H, 0, none⟩ = some (.pointer (some ⟨jb, 0, none⟩)) := b0
  generalize w1.drewN nq = X at HW1 b1 ⊢
  clear HW HRM HK b0
  go_wp2_with fail
  refine Calls.mono HW1.out ?_
  rintro e w5 ⟨rfl, rv', v', h5, hb5⟩
  clear HW1 b1
  have hB5 : Blk w5 (H + 1) #[.int .i64 0] 25 := (h5.all (boxE L (H + 1) #[.int .i64 0] 25) (by simp)).1
  have z1 : w5.cell? ⟨H + 1, 0, none⟩ = some (.int .i64 0) := hB5.cell 0
  have f1 : w5.frozen? ⟨H + 1, 0, none⟩ = false := hB5.frozen 0
  have HF : Hid (Held ((y.added rv' v' bs).es L jb ++ (dmE L y.p s (wroteX x (y.recs.length + 1) y.next bs (kS n)) :: R)) (w5.setCell ⟨H + 1, 0, none⟩ (.int .i64 0)) ∧ Below L w (w5.setCell ⟨H + 1, 0, none⟩ (.int .i64 0)) ∧ (w5.setCell ⟨H + 1, 0, none⟩ (.int .i64 0)).cell? ⟨H + 1, 0, none⟩ = some (.int .i64 0)) := by
    have hs : (w5.setCell ⟨H + 1, 0, none⟩ (.int .i64 0)).cell? ⟨H + 1, 0, none⟩ = some (.int .i64 0) := by rw [(hB5.set 0 _).cell 0]; rfl
    have hd : Held ((y.added rv' v' bs).es L jb ++ (dmE L y.p s (wroteX x (y.recs.length + 1) y.next bs (kS n)) :: R)) w5 := Held.subl h5 (by
      refine List.Sublist.append (List.Sublist.refl _) (List.Sublist.cons_cons _ (List.Sublist.cons _ (List.Sublist.cons _ (List.Sublist.refl _)))))
    have hbx : Held (boxE L (H + 1) #[.int .i64 0] 25 :: ((y.added rv' v' bs).es L jb ++ (dmE L y.p s (wroteX x (y.recs.length + 1) y.next bs (kS n)) :: boxE L H #[.pointer (some ⟨jb, 0, none⟩)] 31 :: R))) w5 := h5.perm (by
      have e1 : ((y.added rv' v' bs).es L jb ++ ([dmE L y.p s (wroteX x (y.recs.length + 1) y.next bs (kS n)), boxE L H #[.pointer (some ⟨jb, 0, none⟩)] 31] ++ (boxE L (H + 1) #[.int .i64 0] 25 :: R))).Perm (boxE L (H + 1) #[.int .i64 0] 25 :: ((y.added rv' v' bs).es L jb ++ ([dmE L y.p s (wroteX x (y.recs.length + 1) y.next bs (kS n)), boxE L H #[.pointer (some ⟨jb, 0, none⟩)] 31] ++ R))) := by
        rw [← List.append_assoc, ← List.append_assoc]
        exact List.perm_middle
      simpa using e1)
    refine ⟨hd.chg (setCell_chg _ _ _ _) (fun k hk e => ?_), (HBB.out.1.trans hb5).trans ((setCell_chg _ _ _ _).below (jlow h5) (fun k e => ?_)), hs⟩
    · refine hbx.apart (k := k) e ?_
      obtain ⟨en, hen, hv⟩ := hk
      refine ⟨en, ?_, hv⟩
      rcases List.mem_append.1 hen with h9 | h9
      · exact List.mem_append_left _ h9
      · refine List.mem_append_right _ ?_
        rcases List.mem_cons.1 h9 with h10 | h10
        · rw [h10]; exact List.mem_cons_self ..
        · exact List.mem_cons_of_mem _ (List.mem_cons_of_mem _ h10)
    · have := (h5.all (boxE L (H + 1) #[.int .i64 0] 25) (by simp)).2
      omega
  clear hB5 h5 hb5
  go_wp2_with fail
  have z2 := HF.out.2.2
  clear z1 f1
  generalize w5.setCell ⟨H + 1, 0, none⟩ (.int .i64 0) = w6 at HF z2 ⊢
  refine leaves_cons (f := 37) (args := #[.pointer (some ⟨H + 1, 0, none⟩), .pointer (some ⟨H, 0, none⟩)]) (by simp) (by simp [go_sem]) ?_
  refine (late_any (H + 1) H 0 (by decide) .returning _ z2).mono ?_
  rintro e u' w' ⟨rfl, rfl, rfl⟩
  refine ⟨.int .i64 0, ?_, rfl, rv', v', HF.out.1, HF.out.2.1⟩
  simp [results, Try.results16, go_sem, z2]
end Go.Proofs.Ytcnokgphioigoaa
namespace Go.Proofs.Ytcnokgphioigoaa
open Go.RowKit Go.PlainAid
set_option linter.unusedVariables false
set_option linter.unusedSimpArgs false
set_option maxRecDepth 100000 in
set_option maxHeartbeats 3200000 in
theorem append_space {L jb s : Nat} {y : JV} {x : DV} {R : List (Ent L)} {vo : Option Addr} {n c : Nat} {bs : List UInt8} (w : World) (h : Held (y.es L jb ++ (dmE L y.p s x :: R)) w) (hb : ∀ W, Below L w W → Held R W → By W (.slice vo n c) bs) (hc : n ≤ c) (hn : n ≤ 8192) (ho : x.off = false) (ha : x.armed = false) (hwh : x.whole ≤ 9223372036854775807) (hwr : x.writes ≤ 900000000000000000) (hr : y.recs.length ≤ 1000) (hx : y.fin < y.next + kS n) (hx2 : y.next ≤ y.fin) (hf : y.fin = x.n) (hxn : x.n ≤ 65536) :
    Calls Try.prog 16 #[.pointer (some ⟨jb, 0, none⟩), .slice vo n c] w fun e w' => e = .returned (.int .i64 211) ∧ Held (y.es L jb ++ (dmE L y.p s x :: R)) w' ∧ Below L w w' := by
  have hmf : ∀ (fn : Fn) (first cap : Array Value) (w : World), (Instr.makeFunc fn first cap).run Try.prog w = .ok (.func fn first cap) w := fun _ _ _ _ => rfl
  obtain ⟨H, hH⟩ : ∃ H, H = w.heap.size := ⟨_, rfl⟩
  have hL := jlow h
  obtain ⟨w1, hw1⟩ : ∃ w1, w1 = (w.alloc (.cells #[.pointer (some ⟨jb, 0, none⟩)] 31)).alloc (.cells #[.int .i64 0] 25) := ⟨_, rfl⟩
  have hb1 : Below H w w1 := by rw [hw1, hH]; exact ((Below.refl _ _).alloc (Nat.le_refl _) _).alloc (by rw [World.size_alloc]; omega) _
  have hB0 : Blk w1 H #[.pointer (some ⟨jb, 0, none⟩)] 31 := by rw [hw1, hH]; exact heap_alloc2_old w _ _
  have hB1 : Blk w1 (H + 1) #[.int .i64 0] 25 := by rw [hw1, hH]; exact heap_alloc2_new w _ _
  have h1 : Held (y.es L jb ++ (dmE L y.p s x :: boxE L H #[.pointer (some ⟨jb, 0, none⟩)] 31 :: boxE L (H + 1) #[.int .i64 0] 25 :: R)) w1 := by
    have hw : Below w.heap.size w w1 := by rw [← hH]; exact hb1
    have h2 : Held (boxE L H #[.pointer (some ⟨jb, 0, none⟩)] 31 :: (y.es L jb ++ (dmE L y.p s x :: R))) w1 := Held.fresh h hw ⟨hB0, by rw [hH]; exact hL⟩ (fun k hk => by have : k = H := hk; omega)
    have h3 : Held (boxE L (H + 1) #[.int .i64 0] 25 :: boxE L H #[.pointer (some ⟨jb, 0, none⟩)] 31 :: (y.es L jb ++ (dmE L y.p s x :: R))) w1 := h2.add ⟨hB1, by omega⟩ (fun k hk hh => by
      have hk' : k = H + 1 := hk
      rcases has_cons.1 hh with e | e
      · have : k = H := e
        omega
      · have := (h.typ e).2
        omega)
    have hp : (boxE L (H + 1) #[.int .i64 0] 25 :: boxE L H #[.pointer (some ⟨jb, 0, none⟩)] 31 :: (y.es L jb ++ (dmE L y.p s x :: R))).Perm (y.es L jb ++ (dmE L y.p s x :: boxE L H #[.pointer (some ⟨jb, 0, none⟩)] 31 :: boxE L (H + 1) #[.int .i64 0] 25 :: R)) := by
      refine (List.Perm.swap ..).trans ?_
      have e1 : ([boxE L H #[.pointer (some ⟨jb, 0, none⟩)] 31, boxE L (H + 1) #[.int .i64 0] 25] ++ ((y.es L jb ++ [dmE L y.p s x]) ++ R)).Perm ((y.es L jb ++ [dmE L y.p s x]) ++ ([boxE L H #[.pointer (some ⟨jb, 0, none⟩)] 31, boxE L (H + 1) #[.int .i64 0] 25] ++ R)) := by
        rw [← List.append_assoc, ← List.append_assoc (y.es L jb ++ [dmE L y.p s x])]
        exact List.Perm.append_right _ List.perm_append_comm
      simpa [List.append_assoc] using e1
    exact h3.perm hp
  have hkn := kS_le n hn
  have H1 : Hid (Held (y.es L jb ++ (dmE L y.p s x :: boxE L H #[.pointer (some ⟨jb, 0, none⟩)] 31 :: boxE L (H + 1) #[.int .i64 0] 25 :: R)) w1) := h1
  have HON : Hid _ := isOn_any w1 (h1d h1)
  rw [ho] at HON
  have HRM : Hid (∀ q, Calls Try.prog 18 #[.pointer (some ⟨jb, 0, none⟩)] (w1.drewN q) fun e w' => e = .returned (.int .i64 ((y.fin - y.next : Nat) : Int)) ∧ ∃ m, w' = (w1.drewN q).drewN m) := fun q => room_any (w1.drewN q) (h1.drewN q) hx2 (by omega)
  have HK : Hid (∀ q, Calls Try.prog 39 #[.int .i64 (n : Int)] (w1.drewN q) fun e w' => e = .returned (.int .i64 (kS n : Int)) ∧ w' = (w1.drewN q)) := fun q => kS_any n _ (by omega)
  have c4 : w1.cell? ⟨jb, 4, none⟩ = some (.bool false) := (jbox h1).cell 4
  have c0 : w1.cell? ⟨jb, 0, none⟩ = some (.pointer (some ⟨y.p, 0, none⟩)) := (jbox h1).cell 0
  have b0 : w1.cell? ⟨H, 0, none⟩ = some (.pointer (some ⟨jb, 0, none⟩)) := hB0.cell 0
  have hroom : ((y.fin - y.next : Nat) : Int) < (kS n : Int) := by omega
  obtain ⟨rm, hrm⟩ : ∃ rm : Int, rm = ((y.fin - y.next : Nat) : Int) := ⟨_, rfl⟩
  obtain ⟨k, hk⟩ : ∃ k : Int, k = (kS n : Int) := ⟨_, rfl⟩
  have hroom' : rm < k := by rw [hrm, hk]; omega
  rw [← hrm] at HRM
  rw [← hk] at HK
  have HBB : Hid (Below L w w1 ∧ H ≤ w1.heap.size) := ⟨hb1.mono (by omega), Nat.le_trans (by omega) hb1.size⟩
  have HHH : Hid (H = w.heap.size) := hH
  have hn' : ¬ (8192 : Int) < (n : Int) := by omega
  clear h hb h1 hB0 hB1 hb1 hL hroom hrm hk ho ha hwh hwr hr hx hx2 hf hxn
  go_enter_defers Try.func16, Try.ntmps16
  go_upto_region 2 with fail
  rw [← hw1, ← hH]
  clear hw1 hH
  go_wp2_with fail
  refine Calls.mono HON.out ?_
  rintro e wo ⟨rfl, hwo⟩
  replace hwo := hwo.symm
  subst hwo
  clear HON c4 c0
  go_wp2_with fail
  go_quiet (first | (go_at_call 39; refine Calls.quiet_of_same (HK.out _)) | (go_at_call 18; refine Calls.quiet_of (HRM.out _)))
  have h5 : Held (y.es L jb ++ (dmE L y.p s x :: boxE L H #[.pointer (some ⟨jb, 0, none⟩)] 31 :: boxE L (H + 1) #[.int .i64 0] 25 :: R)) (w1.drewN nq) := H1.out.drewN nq
  have hb5 : Below L w1 (w1.drewN nq) := below_dr (Below.refl _ _) nq
  generalize w1.drewN nq = w5 at h5 hb5 ⊢
  clear HRM HK b0 H1
  have hB5 : Blk w5 (H + 1) #[.int .i64 0] 25 := (h5.all (boxE L (H + 1) #[.int .i64 0] 25) (by simp)).1
  have z1 : w5.cell? ⟨H + 1, 0, none⟩ = some (.int .i64 0) := hB5.cell 0
  have f1 : w5.frozen? ⟨H + 1, 0, none⟩ = false := hB5.frozen 0
  have HF : Hid (Held (y.es L jb ++ (dmE L y.p s x :: R)) (w5.setCell ⟨H + 1, 0, none⟩ (.int .i64 211)) ∧ Below L w (w5.setCell ⟨H + 1, 0, none⟩ (.int .i64 211)) ∧ (w5.setCell ⟨H + 1, 0, none⟩ (.int .i64 211)).cell? ⟨H + 1, 0, none⟩ = some (.int .i64 211)) := by
    have hs : (w5.setCell ⟨H + 1, 0, none⟩ (.int .i64 211)).cell? ⟨H + 1, 0, none⟩ = some (.int .i64 211) := by rw [(hB5.set 0 _).cell 0]; rfl
    have hd : Held (y.es L jb ++ (dmE L y.p s x :: R)) w5 := Held.subl h5 (by
      refine List.Sublist.append (List.Sublist.refl _) (List.Sublist.cons_cons _ (List.Sublist.cons _ (List.Sublist.cons _ (List.Sublist.refl _)))))
    have hbx : Held (boxE L (H + 1) #[.int .i64 0] 25 :: (y.es L jb ++ (dmE L y.p s x :: boxE L H #[.pointer (some ⟨jb, 0, none⟩)] 31 :: R))) w5 := h5.perm (by
      have e1 : (y.es L jb ++ ([dmE L y.p s x, boxE L H #[.pointer (some ⟨jb, 0, none⟩)] 31] ++ (boxE L (H + 1) #[.int .i64 0] 25 :: R))).Perm (boxE L (H + 1) #[.int .i64 0] 25 :: (y.es L jb ++ ([dmE L y.p s x, boxE L H #[.pointer (some ⟨jb, 0, none⟩)] 31] ++ R))) := by
        rw [← List.append_assoc, ← List.append_assoc]
        exact List.perm_middle
      simpa using e1)
    refine ⟨hd.chg (setCell_chg _ _ _ _) (fun k hk e => ?_), (HBB.out.1.trans hb5).trans ((setCell_chg _ _ _ _).below (jlow h5) (fun k e => ?_)), hs⟩
    · refine hbx.apart (k := k) e ?_
      obtain ⟨en, hen, hv⟩ := hk
      refine ⟨en, ?_, hv⟩
      rcases List.mem_append.1 hen with h9 | h9
      · exact List.mem_append_left _ h9
      · refine List.mem_append_right _ ?_
        rcases List.mem_cons.1 h9 with h10 | h10
        · rw [h10]; exact List.mem_cons_self ..
        · exact List.mem_cons_of_mem _ (List.mem_cons_of_mem _ h10)
    · have := (h5.all (boxE L (H + 1) #[.int .i64 0] 25) (by simp)).2
      omega
  clear hB5 h5 hb5
  go_wp2_with fail
  have z2 := HF.out.2.2
  clear z1 f1
  generalize w5.setCell ⟨H + 1, 0, none⟩ (.int .i64 211) = w6 at HF z2 ⊢
  refine leaves_cons (f := 37) (args := #[.pointer (some ⟨H + 1, 0, none⟩), .pointer (some ⟨H, 0, none⟩)]) (by simp) (by simp [go_sem]) ?_
  refine (late_any (H + 1) H 211 (by decide) .returning _ z2).mono ?_
  rintro e u' w' ⟨rfl, rfl, rfl⟩
  refine ⟨.int .i64 211, ?_, rfl, HF.out.1, HF.out.2.1⟩
  simp [results, Try.results16, go_sem, z2]
end Go.Proofs.Ytcnokgphioigoaa
namespace Go.Proofs.Ytcnokgphioigoaa
open Go.RowKit Go.PlainAid
set_option linter.unusedVariables false
set_option linter.unusedSimpArgs false
set_option maxRecDepth 100000 in
set_option maxHeartbeats 3200000 in
theorem append_long {L jb s : Nat} {y : JV} {x : DV} {R : List (Ent L)} {vo : Option Addr} {n c : Nat} (w : World) (h : Held (y.es L jb ++ (dmE L y.p s x :: R)) w) (hn : 8192 < n) (hn2 : n ≤ 9223372036854775807) (ho : x.off = false) :
    Calls Try.prog 16 #[.pointer (some ⟨jb, 0, none⟩), .slice vo n c] w fun e w' => e = .returned (.int .i64 2) ∧ Held (y.es L jb ++ (dmE L y.p s x :: R)) w' ∧ Below L w w' := by
  have hmf : ∀ (fn : Fn) (first cap : Array Value) (w : World), (Instr.makeFunc fn first cap).run Try.prog w = .ok (.func fn first cap) w := fun _ _ _ _ => rfl
  obtain ⟨H, hH⟩ : ∃ H, H = w.heap.size := ⟨_, rfl⟩
  have hL := jlow h
  obtain ⟨w1, hw1⟩ : ∃ w1, w1 = (w.alloc (.cells #[.pointer (some ⟨jb, 0, none⟩)] 31)).alloc (.cells #[.int .i64 0] 25) := ⟨_, rfl⟩
  have hb1 : Below H w w1 := by rw [hw1, hH]; exact ((Below.refl _ _).alloc (Nat.le_refl _) _).alloc (by rw [World.size_alloc]; omega) _
  have hB0 : Blk w1 H #[.pointer (some ⟨jb, 0, none⟩)] 31 := by rw [hw1, hH]; exact heap_alloc2_old w _ _
  have hB1 : Blk w1 (H + 1) #[.int .i64 0] 25 := by rw [hw1, hH]; exact heap_alloc2_new w _ _
  have h1 : Held (y.es L jb ++ (dmE L y.p s x :: R)) w1 := h.more (by rw [← hH]; exact hb1)
  have HON : Hid _ := isOn_any w1 (h1d h1)
  rw [ho] at HON
  have c4 : w1.cell? ⟨jb, 4, none⟩ = some (.bool false) := (jbox h1).cell 4
  have c0 : w1.cell? ⟨jb, 0, none⟩ = some (.pointer (some ⟨y.p, 0, none⟩)) := (jbox h1).cell 0
  have b0 : w1.cell? ⟨H, 0, none⟩ = some (.pointer (some ⟨jb, 0, none⟩)) := hB0.cell 0
  have z1 : w1.cell? ⟨H + 1, 0, none⟩ = some (.int .i64 0) := hB1.cell 0
  have f1 : w1.frozen? ⟨H + 1, 0, none⟩ = false := hB1.frozen 0
  have HF : Hid (Held (y.es L jb ++ (dmE L y.p s x :: R)) (w1.setCell ⟨H + 1, 0, none⟩ (.int .i64 2)) ∧ Below L w (w1.setCell ⟨H + 1, 0, none⟩ (.int .i64 2)) ∧ (w1.setCell ⟨H + 1, 0, none⟩ (.int .i64 2)).cell? ⟨H + 1, 0, none⟩ = some (.int .i64 2)) := by
    refine ⟨h1.chg (setCell_chg _ _ _ _) (fun k hk e => ?_), (hb1.mono (by omega)).trans ((setCell_chg _ _ _ _).below (by have := hb1.size; omega) (fun k e => by omega)), by rw [(hB1.set 0 _).cell 0]; rfl⟩
    have := (h.typ hk).2
    omega
  have hn' : (8192 : Int) < (n : Int) := by omega
  clear h h1 hb1 hB0 hB1 hL ho hn
  go_enter_defers Try.func16, Try.ntmps16
  go_upto_region 2 with fail
  rw [← hw1, ← hH]
  clear hw1 hH
  go_wp2_with fail
  refine Calls.mono HON.out ?_
  rintro e wo ⟨rfl, hwo⟩
  replace hwo := hwo.symm
  subst hwo
  clear HON c4 c0
  go_wp2_with fail
  have z2 := HF.out.2.2
  clear z1 f1
  generalize w1.setCell ⟨H + 1, 0, none⟩ (.int .i64 2) = w6 at HF z2 ⊢
  refine leaves_cons (f := 37) (args := #[.pointer (some ⟨H + 1, 0, none⟩), .pointer (some ⟨H, 0, none⟩)]) (by simp) (by simp [go_sem]) ?_
  refine (late_any (H + 1) H 2 (by decide) .returning _ z2).mono ?_
  rintro e u' w' ⟨rfl, rfl, rfl⟩
  refine ⟨.int .i64 2, ?_, rfl, HF.out.1, HF.out.2.1⟩
  simp [results, Try.results16, go_sem, z2]
end Go.Proofs.Ytcnokgphioigoaa
