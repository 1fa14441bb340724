import Derived.Test.YtcnokgphioigoaaJI
import Derived.BigQuiet
namespace Go.Proofs.Ytcnokgphioigoaa
open Go.RowKit Go.PlainAid
set_option linter.unusedVariables false
set_option linter.unusedSimpArgs false
set_option maxRecDepth 100000
set_option maxHeartbeats 3200000
theorem imgL_from (n : Nat) (im : List UInt8) (hl : im.length = n * 512) : imgL (fromX n im) = im := by
  apply List.ext_getElem?
  intro j
  have hn : (fromX n im).n = n := rfl
  by_cases h : j < 512 * n
  · rw [imgL_get _ _ (by rw [hn]; exact h)]
    show some (if j < n * 512 then im.getD j 0 else 0) = _
    rw [if_pos (by omega), List.getD_eq_getElem?_getD, List.getElem?_eq_getElem (by omega)]
    rfl
  · rw [List.getElem?_eq_none (by rw [imgL_len, hn]; omega), List.getElem?_eq_none (by omega)]
def ShPost (w : World) (e : Ending) (w' : World) : Prop := ∃ (n g : Nat) (im : List UInt8), 1 ≤ n ∧ n ≤ 80 ∧ im.length = n * 512 ∧ e = .returned (.slice (some ⟨g, 0, none⟩) (n * 512) (n * 512)) ∧ w'.ownsRow w.heap.size 5 1 (.slice (some ⟨g, 0, none⟩) (n * 512) (n * 512)) (n * 512) (im.map B) ∧ Below w.heap.size w w'
/-- An image of so many sectors. -/
theorem shaped_any {v : Value} {bs : List UInt8} (z : Int) (w : World) (hz : -9223372036854775808 ≤ z ∧ z ≤ 9223372036854775807) (hb : By w v bs) :
    Calls Try.prog 23 #[.int .i64 z, v] w (ShPost w) := by
  obtain ⟨vo, vn, vc, rfl, hvn, _⟩ := id hb
  have key : ∀ k : Nat, k < 80 → ∃ (w2 w3 : World) (im : List UInt8), (Instr.makeSlice 38 (.int .i64 (512 * (1 + (k : Int)))) (.int .i64 (512 * (1 + (k : Int))))).run Try.prog w = .ok (.slice (some ⟨w.heap.size, 0, none⟩) ((1 + k) * 512) ((1 + k) * 512)) w2 ∧ (∃ m : Int, (Builtin.copy_ #[38, 38] 3 #[.slice (some ⟨w.heap.size, 0, none⟩) ((1 + k) * 512) ((1 + k) * 512), .slice vo vn vc]).run Try.prog w2 = .ok (.int .i64 m) w3) ∧ im.length = (1 + k) * 512 ∧ w3.ownsRow w.heap.size 5 1 (.slice (some ⟨w.heap.size, 0, none⟩) ((1 + k) * 512) ((1 + k) * 512)) ((1 + k) * 512) ((im : List UInt8).map B) ∧ Below w.heap.size w w3 := fun k hk => by
    obtain ⟨R, hmk, hRs, hRa⟩ := mk_bytes ((1 + k) * 512) (by omega) w
    have e1 : (((1 + k) * 512 : Nat) : Int) = 512 * (1 + (k : Int)) := by push_cast; omega
    rw [e1] at hmk
    have hbl : Below w.heap.size w (w.alloc (.cells R 5)) := (Below.refl _ _).alloc (Nat.le_refl _) _
    have hB : Blk (w.alloc (.cells R 5)) w.heap.size R 5 := heap_alloc_new w _
    obtain ⟨w3, hcp, ⟨cur, q1, q2, q3⟩, hch⟩ := copy_by (o := 0) (dLen := (1 + k) * 512) (dCap := (1 + k) * 512) hB (hb.keep hbl) (by rw [hRs]; omega)
    refine ⟨_, w3, (List.range ((1 + k) * 512)).map (fun j => if j < min bs.length ((1 + k) * 512) then bs.getD j 0 else 0), hmk, ⟨_, hcp⟩, by rw [List.length_map, List.length_range], ?_, hbl.trans (hch.below (by rw [World.size_alloc]; omega) (fun j e => by omega))⟩
    refine own_blk q1 (Nat.le_refl _) (by rw [q2]; exact hRs) (by unfold maxLen; omega) (fun j hj => ?_) (by rw [List.length_map, List.length_range])
    have e2 : ((List.range ((1 + k) * 512)).map (fun j => if j < min bs.length ((1 + k) * 512) then bs.getD j 0 else 0)).getD j 0 = if j < min bs.length ((1 + k) * 512) then bs.getD j 0 else 0 := by
      rw [List.getD_eq_getElem?_getD, List.getElem?_map, List.getElem?_range hj, Option.map_some, Option.getD_some]
    rw [q3 j, e2]
    by_cases h : j < min bs.length ((1 + k) * 512)
    · rw [if_pos (by omega), if_pos h, Nat.sub_zero]
    · rw [if_neg (by omega), if_neg h]; exact hRa j hj
  have HKEY : Hid _ := key
  clear key hb hvn
  by_cases h0 : z < 0
  · obtain ⟨q, hq⟩ : ∃ q : Nat, (q : Int) = -(z + 1) := ⟨(-(z + 1)).toNat, by omega⟩
    have ht : (-(z + 1)).tmod 80 = ((q % 80 : Nat) : Int) := by rw [← hq, Int.tmod_eq_emod_of_nonneg (by omega)]; omega
    obtain ⟨w2, w3, im, hmk, ⟨m, hcp⟩, hil, hown, hbl⟩ := HKEY.out (q % 80) (Nat.mod_lt _ (by decide))
    have hlt : q % 80 < 80 := Nat.mod_lt _ (by decide)
    have HF : Hid (im.length = (1 + q % 80) * 512 ∧ w3.ownsRow w.heap.size 5 1 (.slice (some ⟨w.heap.size, 0, none⟩) ((1 + q % 80) * 512) ((1 + q % 80) * 512)) ((1 + q % 80) * 512) (im.map B) ∧ Below w.heap.size w w3) := ⟨hil, hown, hbl⟩
    clear hil hown hbl HKEY hq
    generalize q % 80 = k at ht hmk hcp hlt HF
    obtain ⟨N, hN⟩ : ∃ N, N = (1 + k) * 512 := ⟨_, rfl⟩
    have HN : Hid (N = (1 + k) * 512) := hN
    rw [← hN] at hmk hcp HF
    clear hN
    go_enter Try.func23, Try.ntmps23
    go_wp2_with fail
    go_ret
    unfold ShPost
    exact ⟨1 + k, w.heap.size, im, by omega, by omega, by rw [← HN.out]; exact HF.out.1, by rw [← HN.out]; rfl, by rw [← HN.out]; exact HF.out.2.1, HF.out.2.2⟩
  · obtain ⟨q, hq⟩ : ∃ q : Nat, (q : Int) = z := ⟨z.toNat, by omega⟩
    subst hq
    have ht : (q : Int).tmod 80 = ((q % 80 : Nat) : Int) := by rw [Int.tmod_eq_emod_of_nonneg (by omega)]; omega
    obtain ⟨w2, w3, im, hmk, ⟨m, hcp⟩, hil, hown, hbl⟩ := HKEY.out (q % 80) (Nat.mod_lt _ (by decide))
    have hlt : q % 80 < 80 := Nat.mod_lt _ (by decide)
    have HF : Hid (im.length = (1 + q % 80) * 512 ∧ w3.ownsRow w.heap.size 5 1 (.slice (some ⟨w.heap.size, 0, none⟩) ((1 + q % 80) * 512) ((1 + q % 80) * 512)) ((1 + q % 80) * 512) (im.map B) ∧ Below w.heap.size w w3) := ⟨hil, hown, hbl⟩
    clear hil hown hbl HKEY
    generalize q % 80 = k at ht hmk hcp hlt HF
    obtain ⟨N, hN⟩ : ∃ N, N = (1 + k) * 512 := ⟨_, rfl⟩
    have HN : Hid (N = (1 + k) * 512) := hN
    rw [← hN] at hmk hcp HF
    clear hN
    go_enter Try.func23, Try.ntmps23
    go_wp2_with fail
    go_ret
    unfold ShPost
    exact ⟨1 + k, w.heap.size, im, by omega, by omega, by rw [← HN.out]; exact HF.out.1, by rw [← HN.out]; rfl, by rw [← HN.out]; exact HF.out.2.1, HF.out.2.2⟩
end Go.Proofs.Ytcnokgphioigoaa
namespace Go.Proofs.Ytcnokgphioigoaa
open Go.RowKit Go.PlainAid
set_option linter.unusedVariables false
set_option linter.unusedSimpArgs false
set_option maxRecDepth 100000
set_option maxHeartbeats 3200000
/-- What a desk is made of. -/
def deskEs (L kb p s sb jb : Nat) (x : DV) (y : JV) (iv : Value) (left torn : Int) (hv : Value) (hs : List (Value × List UInt8)) (k : Nat) (R : List (Ent L)) : List (Ent L) := boxE L kb (deskC p (.pointer (some ⟨jb, 0, none⟩)) iv true left torn hv (itR x.b k).2 false sb) 64 :: (haveE L hv hs ++ (imE L iv x :: (y.es L jb ++ (dmE L p s x :: R))))
structure NewX (x : DV) (n : Nat) (im : List UInt8) : Prop where
  n : x.n = n
  im : imgL x = im
  off : x.off = false
  armed : x.armed = false
  whole : x.whole = 0
  writes : x.writes = 0
  torn : x.torn = 0
theorem newX (n : Nat) (im : List UInt8) (hl : im.length = n * 512) : ∃ x, NewX x n im := ⟨fromX n im, rfl, imgL_from n im hl, rfl, rfl, rfl, rfl, rfl⟩
theorem begun_any {L g n c : Nat} {im : List UInt8} {R : List (Ent L)} (w : World) (h : Held R w) (hL : L ≤ w.heap.size) (hb : ∀ W, Below L w W → Held R W → By W (.slice (some ⟨g, 0, none⟩) (n * 512) c) im) (hil : im.length = n * 512) (hn : 1 ≤ n) (hn2 : n ≤ 1000) (hc : n * 512 ≤ c) :
    Calls Try.prog 24 #[.slice (some ⟨g, 0, none⟩) (n * 512) c] w fun e w' => ∃ (x : DV) (kb p s sb jb : Nat) (y : JV) (iv hv : Value) (hs : List (Value × List UInt8)) (k : Nat), e = .returned (.pointer (some ⟨kb, 0, none⟩)) ∧ NewX x n im ∧ Full x.b n k ∧ JIs y p x k ∧ hs.map Prod.snd = (itR x.b k).1 ∧ (∃ ao c, hv = Value.slice ao hs.length c) ∧ hs.length = k ∧ Held (deskEs L kb p s sb jb x y iv (-1) 0 hv hs k (boxE L sb #[.bool false, .slice none 0 0, .slice none 0 0, .slice none 0 0] 86 :: R)) w' ∧ Below L w w' := by
  have hby := hb w (Below.refl _ _) h
  obtain ⟨_, _, _, e, hbl, hnil, hcell⟩ := id hby
  cases e
  have hcopy : ∀ W : World, Below L w W → Held R W → L ≤ W.heap.size → ∃ v1 w1, (∀ ty, (Builtin.append_ #[38, 38] ty #[.slice none 0 0, .slice (some ⟨g, 0, none⟩) (n * 512) c]).run Try.prog W = .ok v1 w1) ∧ w1.ownsRow W.heap.size 5 1 v1 (n * 512) (im.map B) ∧ Below W.heap.size W w1 := fun W hW hR hLW => by
    obtain ⟨_, _, _, e, hbl', hnil', hcell'⟩ := hb W hW hR
    cases e
    obtain ⟨v1, w1, hr1, ho1, hg1⟩ := app_rows (w := W) 38 5 (.int .u8 0) 1 1 Try.underlying38 info5' rfl (by decide) (by decide) (World.ownsRow_nil W W.heap.size 5 1) (ao := some ⟨g, 0, none⟩) (m := n * 512) (cap := c) (ys := im.map B) (by simp [hil]) hnil' hcell' (oneB im) (by omega) (Nat.le_refl _)
    rw [Nat.zero_add, List.nil_append] at ho1
    exact ⟨v1, w1, hr1, ho1, hg1.below (fun q hq => by cases hq) (Nat.le_refl _)⟩
  obtain ⟨v1, w1, hr1, ho1, hb1⟩ := hcopy w (Below.refl _ _) h hL
  have HR1 : Hid (∀ ty, (Builtin.append_ #[38, 38] ty #[.slice none 0 0, .slice (some ⟨g, 0, none⟩) (n * 512) c]).run Try.prog w = .ok v1 w1) := hr1
  obtain ⟨g1, c1, hv1, hc1, hby1⟩ : ∃ g1 c1, v1 = .slice (some ⟨g1, 0, none⟩) (n * 512) c1 ∧ n * 512 ≤ c1 ∧ By w1 (.slice (some ⟨g1, 0, none⟩) (n * 512) c1) im := by
    obtain ⟨x, hx⟩ := newX n im hil
    have h9 : w1.ownsRow w.heap.size 5 1 v1 (x.n * 512) ((imgL x).map B) := by rw [hx.im, hx.n]; exact ho1
    have := im_lit h9 (by rw [hx.n]; exact hn)
    rw [hx.im, hx.n] at this
    exact this
  have HFR : Hid (∃ x, NewX x n im ∧ Calls Try.prog 43 #[.slice (some ⟨g1, 0, none⟩) (n * 512) c1] w1 fun e w' => e = .returned (.tuple #[.pointer (some ⟨w1.heap.size + 1, 0, none⟩), .int .i64 0]) ∧ DM w1.heap.size (w1.heap.size + 1) w1.heap.size x w' ∧ Below w1.heap.size w1 w') := ⟨fromX n im, ⟨rfl, imgL_from n im hil, rfl, rfl, rfl, rfl, rfl⟩, from_yes w1 ⟨hn, by omega⟩ hby1 hc1⟩
  obtain ⟨x, hx, hfr⟩ := HFR.out
  have HXX : Hid (NewX x n im) := hx
  have HFR : Hid _ := hfr
  clear hx hfr
  have H1 : Hid (Held R w1 ∧ Below L w w1 ∧ L ≤ w1.heap.size) := ⟨h.more hb1, hb1.mono hL, Nat.le_trans hL hb1.size⟩
  have HCP : Hid _ := hcopy
  have HNN : Hid (1 ≤ n ∧ n ≤ 1000 ∧ im.length = n * 512 ∧ L ≤ w.heap.size) := ⟨hn, hn2, hil, hL⟩
  have hcopy2 : True := trivial
  subst hv1
  clear h hL hb hil hn hn2 hc hby hbl hnil hcell hcopy hr1 ho1 hb1 hc1 hby1 hcopy2
  go_enter Try.func24, Try.ntmps24
  go_wp2_with (at_builtin; refine wpList_runs rfl _ _ 38 rfl rfl rfl HR1.out ?_)
  clear HR1
  refine Calls.mono HFR.out ?_
  rintro e w2 ⟨rfl, hd2, hb2⟩
  clear HFR
  have h2 : Held (dmE L (w1.heap.size + 1) w1.heap.size x :: R) w2 := Held.fresh H1.out.1 hb2 (hd2.low H1.out.2.2) (fun k hk => by rcases hk with hk | hk <;> omega)
  have hb2' : Below L w w2 := H1.out.2.1.trans (hb2.mono H1.out.2.2)
  obtain ⟨p, hp⟩ : ∃ p, p = w1.heap.size + 1 := ⟨_, rfl⟩
  obtain ⟨s, hs⟩ : ∃ s, s = w1.heap.size := ⟨_, rfl⟩
  rw [← hp, ← hs] at h2
  rw [← hp]
  have hLs2 : L ≤ w2.heap.size := Nat.le_trans HNN.out.2.2.2 hb2'.size
  obtain ⟨iv, w3, hr3, ho3, hb3⟩ := HCP.out w2 hb2' h2.drop hLs2
  have HR3 : Hid (∀ ty, (Builtin.append_ #[38, 38] ty #[.slice none 0 0, .slice (some ⟨g, 0, none⟩) (n * 512) c]).run Try.prog w2 = .ok iv w3) := hr3
  have h3 : Held (imE L iv x :: dmE L p s x :: R) w3 := Held.fresh h2 hb3 (by
    show w3.ownsRow L 5 1 iv (x.n * 512) ((imgL x).map B)
    rw [HXX.out.im, HXX.out.n]
    exact ownsRow_mono ho3 hLs2) (fun k hk => (ownsRow_lt ho3 hk).1)
  have hb3' : Below L w w3 := hb2'.trans (hb3.mono hLs2)
  obtain ⟨ivo, ivc, hive, _⟩ := own_slice ho3
  obtain ⟨w4, hw4⟩ : ∃ w4, w4 = w3.alloc (.cells #[.bool false, .slice none 0 0, .slice none 0 0, .slice none 0 0] 86) := ⟨_, rfl⟩
  obtain ⟨sb, hsb⟩ : ∃ sb, sb = w3.heap.size := ⟨_, rfl⟩
  have hb4 : Below w3.heap.size w3 w4 := by rw [hw4]; exact (Below.refl _ _).alloc (Nat.le_refl _) _
  have hLs3 : L ≤ w3.heap.size := Nat.le_trans HNN.out.2.2.2 hb3'.size
  have h4 : Held (boxE L sb #[.bool false, .slice none 0 0, .slice none 0 0, .slice none 0 0] 86 :: imE L iv x :: dmE L p s x :: R) w4 := Held.fresh h3 hb4 ⟨by rw [hw4, hsb]; exact heap_alloc_new w3 _, by rw [hsb]; exact hLs3⟩ (fun k hk => by have : k = sb := hk; omega)
  obtain ⟨w5, hw5⟩ : ∃ w5, w5 = w4.alloc (.cells (deskC p (.pointer none) iv true (-1) 0 (.slice none 0 0) 0 false sb) 64) := ⟨_, rfl⟩
  obtain ⟨kb, hkb⟩ : ∃ kb, kb = w4.heap.size := ⟨_, rfl⟩
  have hb5 : Below w4.heap.size w4 w5 := by rw [hw5]; exact (Below.refl _ _).alloc (Nat.le_refl _) _
  have hLs4 : L ≤ w4.heap.size := Nat.le_trans hLs3 hb4.size
  have h5 : Held (boxE L kb (deskC p (.pointer none) iv true (-1) 0 (.slice none 0 0) 0 false sb) 64 :: boxE L sb #[.bool false, .slice none 0 0, .slice none 0 0, .slice none 0 0] 86 :: imE L iv x :: dmE L p s x :: R) w5 := Held.fresh h4 hb5 ⟨by rw [hw5, hkb]; exact heap_alloc_new w4 _, by rw [hkb]; exact hLs4⟩ (fun k hk => by have : k = kb := hk; omega)
  have h6 : Held (boxE L kb (deskC p (.pointer none) iv true (-1) 0 (.slice none 0 0) 0 false sb) 64 :: imE L iv x :: dmE L p s x :: (boxE L sb #[.bool false, .slice none 0 0, .slice none 0 0, .slice none 0 0] 86 :: R)) w5 := h5.perm (List.Perm.cons _ ((List.Perm.swap ..).trans (List.Perm.cons _ (List.Perm.swap ..))))
  have hb5' : Below L w w5 := (hb3'.trans (hb4.mono hLs3)).trans (hb5.mono hLs4)
  have HOP : Hid _ := opens_any w5 h6 HXX.out.off (by rw [HXX.out.n]; exact HNN.out.1) (by rw [HXX.out.n]; exact HNN.out.2.1)
  have HB5 : Hid (Below L w w5) := hb5'
  have hcs : deskC p (.pointer none) iv true (-1) 0 (.slice none 0 0) 0 false sb = #[.pointer (some ⟨p, 0, none⟩), .pointer none, iv, .bool true, .int .i64 (-1), .int .i64 0, .slice none 0 0, .int .i64 0, .bool false, .pointer (some ⟨sb, 0, none⟩)] := rfl
  rw [hcs] at hw5
  have HIV : Hid (iv = .slice ivo (n * 512) ivc) := hive
  subst hive
  clear hd2 hb2 h2 hb2' hp hs hLs2 hr3 ho3 hb3 h3 hb3' hb4 hLs3 h4 hb5 hLs4 h5 h6 hb5' hcs
  go_wp2_with (at_builtin; refine wpList_runs rfl _ _ 38 rfl rfl rfl HR3.out ?_)
  clear HR3
  try rw [← hsb]
  try rw [← hw4]
  have hks : sb + 1 = kb := by rw [hkb, hw4, World.size_alloc, ← hsb]
  try rw [← hw5]
  rw [hks]
  clear hks
  refine Calls.mono HOP.out ?_
  rintro e w6 ⟨rfl, jb, y, k, hv, hs, e1, e2, e3, e4, e5, e6, e7⟩
  have HN : Hid (NewX x n im ∧ Full x.b n k ∧ JIs y p x k ∧ hs.map Prod.snd = (itR x.b k).1 ∧ (∃ ao c, hv = Value.slice ao hs.length c) ∧ hs.length = k ∧ Held (deskEs L kb p s sb jb x y (.slice ivo (n * 512) ivc) (-1) 0 hv hs k (boxE L sb #[.bool false, .slice none 0 0, .slice none 0 0, .slice none 0 0] 86 :: R)) w6 ∧ Below L w w6) := ⟨HXX.out, by rw [← HXX.out.n]; exact e1, e2, e3, e4, e5, e6, HB5.out.trans e7⟩
  clear HOP e1 e2 e3 e4 e5 e6 e7 hw4 hw5 hsb hkb
  go_wp2_with fail
  go_ret
  exact ⟨x, kb, p, s, sb, jb, y, _, hv, hs, k, rfl, HN.out⟩
end Go.Proofs.Ytcnokgphioigoaa
namespace Go.Proofs.Ytcnokgphioigoaa
open Go.RowKit Go.PlainAid
set_option linter.unusedVariables false
set_option linter.unusedSimpArgs false
set_option maxRecDepth 100000
set_option maxHeartbeats 3200000
def deskG (L kb p s sb jb : Nat) (x : DV) (y : JV) (iv : Value) (left torn : Int) (hv : Value) (hs : List (Value × List UInt8)) (next : Nat) (R : List (Ent L)) : List (Ent L) := boxE L kb (deskC p (.pointer (some ⟨jb, 0, none⟩)) iv true left torn hv next false sb) 64 :: (haveE L hv hs ++ (imE L iv x :: (y.es L jb ++ (dmE L p s x :: R))))
/-- Program and document have the same. -/
structure DOk (p : Nat) (x : DV) (y : JV) (hv : Value) (hs : List (Value × List UInt8)) (next : Nat) : Prop where
  ep : y.p = p
  recs : y.recs.map Prod.snd = hs.map Prod.snd
  enx : y.next = next
  fin : y.fin = x.n
  le : next ≤ x.n
  n1 : 1 ≤ x.n
  n2 : x.n ≤ 1000
  l8 : ∀ d ∈ y.recs, d.2.length ≤ 8192
  ehv : ∃ ao c, hv = Value.slice ao hs.length c
  hl : hs.length ≤ next
theorem DOk.len {p : Nat} {x : DV} {y : JV} {hv : Value} {hs : List (Value × List UInt8)} {next : Nat} (h : DOk p x y hv hs next) : y.recs.length = hs.length := by
  have := congrArg List.length h.recs
  simpa using this
section
variable {L kb p s sb jb : Nat} {x : DV} {y : JV} {iv : Value} {left torn : Int} {hv : Value} {hs : List (Value × List UInt8)} {next : Nat} {R : List (Ent L)} {w : World}
theorem desk_j (h : Held (deskG L kb p s sb jb x y iv left torn hv hs next R) w) : Held (y.es L jb ++ (dmE L p s x :: (boxE L kb (deskC p (.pointer (some ⟨jb, 0, none⟩)) iv true left torn hv next false sb) 64 :: (haveE L hv hs ++ (imE L iv x :: R))))) w := by
  refine h.perm ?_
  have e := List.Perm.append_right R (List.perm_append_comm (l₁ := boxE L kb (deskC p (.pointer (some ⟨jb, 0, none⟩)) iv true left torn hv next false sb) 64 :: (haveE L hv hs ++ [imE L iv x])) (l₂ := y.es L jb ++ [dmE L p s x]))
  simpa [deskG, List.append_assoc] using e
theorem desk_box (h : Held (deskG L kb p s sb jb x y iv left torn hv hs next R) w) : Blk w kb (deskC p (.pointer (some ⟨jb, 0, none⟩)) iv true left torn hv next false sb) 64 := Held.boxB h
theorem desk_im (h : Held (deskG L kb p s sb jb x y iv left torn hv hs next R) w) : w.ownsRow L 5 1 iv (x.n * 512) ((imgL x).map B) := h.all (imE L iv x) (by simp [deskG])
theorem desk_dm (h : Held (deskG L kb p s sb jb x y iv left torn hv hs next R) w) : DM L p s x w := h.all (dmE L p s x) (by simp [deskG])
theorem desk_lo (h : Held (deskG L kb p s sb jb x y iv left torn hv hs next R) w) : L ≤ w.heap.size := Held.lowL (e := boxE L kb (deskC p (.pointer (some ⟨jb, 0, none⟩)) iv true left torn hv next false sb) 64) h (k := kb) rfl
theorem desk_rows (h : Held (deskG L kb p s sb jb x y iv left torn hv hs next R) w) : Rows w hv (hs.map Prod.snd) := by
  have ht : Tail w L 38 hv hs.length (hs.map Prod.fst) := h.all (tailE L 38 hv hs.length (hs.map Prod.fst)) (by simp [deskG, haveE])
  obtain ⟨ao, c, e⟩ := tail_val ht
  refine ⟨ao, c, by rw [e, List.length_map], fun i bs hi => ?_⟩
  rw [List.getElem?_map] at hi
  cases hd : hs[i]? with
  | none => rw [hd] at hi; cases hi
  | some d =>
    rw [hd] at hi
    cases hi
    obtain ⟨g, off, cap, e3, e4⟩ := tail_at ht (i := i) (u := d.1) (by rw [List.getElem?_map, hd]; rfl)
    have hb : By w d.1 d.2 ∧ _ := h.all (byE L d) (by
      have := List.mem_map_of_mem (f := byE L) (List.mem_of_getElem? hd)
      simp [deskG, haveE]
      exact Or.inr (Or.inr (Or.inl ⟨d.1, d.2, List.mem_of_getElem? hd, rfl⟩)))
    obtain ⟨uo, n, uc, e5, _⟩ := id hb.1
    rw [e3] at e
    cases e
    exact ⟨g, off, uo, n, uc, rfl, by rw [← e5]; exact e4, by rw [← e5]; exact hb.1⟩
theorem looks_any (h : Held (deskG L kb p s sb jb x y iv left torn hv hs next R) w) (hd : DOk p x y hv hs next) : Calls Try.prog 25 #[.pointer (some ⟨kb, 0, none⟩)] w fun e w' => e = .returned (.bool true) ∧ ∃ q, w' = w.drewN q := by
  obtain ⟨ho, hc, hve⟩ := hd.ehv
  obtain ⟨ig, ic, hie, _, _⟩ := im_lit (desk_im h) hd.n1
  have hB := desk_box h
  have c1 : w.cell? ⟨kb, 1, none⟩ = some (.pointer (some ⟨jb, 0, none⟩)) := hB.cell 1
  have c2 : w.cell? ⟨kb, 2, none⟩ = some (.slice (some ⟨ig, 0, none⟩) (x.n * 512) ic) := by rw [← hie]; exact hB.cell 2
  have c6 : w.cell? ⟨kb, 6, none⟩ = some (.slice ho hs.length hc) := by rw [← hve]; exact hB.cell 6
  have c7 : w.cell? ⟨kb, 7, none⟩ = some (.int .i64 (next : Int)) := hB.cell 7
  have c8 : w.cell? ⟨kb, 8, none⟩ = some (.bool false) := hB.cell 8
  have hj := desk_j h
  have hlen := hd.len
  have hn2 := hd.n2
  have hle := hd.le
  have hl := hd.hl
  have HLN : Hid (∀ q, Calls Try.prog 30 #[.pointer (some ⟨jb, 0, none⟩)] (w.drewN q) fun e w' => e = .returned (.int .i64 (hs.length : Int)) ∧ w' = w.drewN q) := fun q => by
    rw [← hlen]; exact len_any (w.drewN q) (hj.drewN q) (by omega)
  have HRM : Hid (∀ q, Calls Try.prog 18 #[.pointer (some ⟨jb, 0, none⟩)] (w.drewN q) fun e w' => e = .returned (.int .i64 ((x.n : Int) - (next : Int))) ∧ ∃ m, w' = (w.drewN q).drewN m) := fun q => by
    have h9 := room_any (w.drewN q) (hj.drewN q) (by rw [hd.enx, hd.fin]; exact hle) (by rw [hd.fin]; omega)
    rw [hd.enx, hd.fin, show ((x.n - next : Nat) : Int) = (x.n : Int) - (next : Int) by omega] at h9
    exact h9
  have HDD : Hid (∀ q, Calls Try.prog 42 #[.pointer (some ⟨jb, 0, none⟩)] (w.drewN q) fun e w' => e = .returned (.bool false) ∧ w' = w.drewN q) := fun q => dead_any (w.drewN q) (hj.drewN q)
  have hq : Int.tdiv ((x.n * 512 : Nat) : Int) 512 = (x.n : Int) := by rw [Int.tdiv_eq_ediv_of_nonneg (by omega)]; omega
  obtain ⟨N, hN⟩ : ∃ N, N = x.n := ⟨_, rfl⟩
  obtain ⟨len, hll⟩ : ∃ l, l = hs.length := ⟨_, rfl⟩
  rw [← hN] at c2 HRM hq hn2 hle
  rw [← hll] at c6 HLN hl
  clear h hd hve hie hB hj hlen hN hll
  go_enter Try.func25, Try.ntmps25
  go_wp2_with fail
  go_quiet (fail)
  have HX : Hid (∃ q, w.drewN nq = w.drewN q) := ⟨nq, rfl⟩
  have HLN2 : Hid (∀ q, Calls Try.prog 30 #[.pointer (some ⟨jb, 0, none⟩)] ((w.drewN nq).drewN q) fun e w' => e = .returned (.int .i64 (len : Int)) ∧ w' = (w.drewN nq).drewN q) := fun q => by rw [World.drewN_drewN]; exact HLN.out _
  have HRM2 : Hid (∀ q, Calls Try.prog 18 #[.pointer (some ⟨jb, 0, none⟩)] ((w.drewN nq).drewN q) fun e w' => e = .returned (.int .i64 ((N : Int) - (next : Int))) ∧ ∃ m, w' = ((w.drewN nq).drewN q).drewN m) := fun q => by rw [World.drewN_drewN]; exact HRM.out _
  have HDD2 : Hid (∀ q, Calls Try.prog 42 #[.pointer (some ⟨jb, 0, none⟩)] ((w.drewN nq).drewN q) fun e w' => e = .returned (.bool false) ∧ w' = (w.drewN nq).drewN q) := fun q => by rw [World.drewN_drewN]; exact HDD.out _
  have e1 : (w.drewN nq).cell? ⟨kb, 1, none⟩ = some (.pointer (some ⟨jb, 0, none⟩)) := c1
  have e8 : (w.drewN nq).cell? ⟨kb, 8, none⟩ = some (.bool false) := c8
  generalize w.drewN nq = X at HX HLN2 HRM2 HDD2 e1 e8 ⊢
  clear c1 c2 c6 c7 c8 HLN HRM HDD hq
  obtain ⟨rm, hrm⟩ : ∃ rm : Int, rm = (N : Int) - (next : Int) := ⟨_, rfl⟩
  go_wp2_with fail
  try rw [← hrm] at HRM2 ⊢
  clear hrm
  go_quiet (first | (go_at_call 30; refine Calls.quiet_of_same (HLN2.out _)) | (go_at_call 18; refine Calls.quiet_of (HRM2.out _)) | (go_at_call 42; refine Calls.quiet_of_same (HDD2.out _)))
  have HF : Hid (∃ q, X.drewN nq = w.drewN q) := by
    obtain ⟨q, e⟩ := HX.out
    exact ⟨q + nq, by rw [e, World.drewN_drewN]⟩
  generalize X.drewN nq = Y at HF ⊢
  clear HX HLN2 HRM2 HDD2 e1 e8
  go_wp2_with fail
  go_ret
  exact ⟨rfl, HF.out⟩
end
end Go.Proofs.Ytcnokgphioigoaa
