import Derived.Test.YtjpdcahodmomgaaJn34
namespace Go.Proofs.Ytjpdcahodmomgaa
open Go.RowKit Go.PlainAid
set_option linter.unusedVariables false
set_option linter.unusedSimpArgs false
set_option maxRecDepth 100000
set_option maxHeartbeats 3200000
/-- What a desk is made of. -/
def deskEs (L kb p s sb jb : Nat) (x : DV) (y : JV) (iv : Value) (left torn : Int) (hv : Value) (hs : List (Value × List UInt8)) (k : Nat) (R : List (Ent L)) : List (Ent L) := boxE L kb (deskC p (.pointer (some ⟨jb, 0, none⟩)) iv true left torn hv (itR x.b k).2 false sb) 64 :: (haveE L hv hs ++ (imE L iv x :: (y.es L jb ++ (dmE L p s x :: R))))
structure NewX (x : DV) (n : Nat) (im : List UInt8) : Prop where
  n : x.n = n
  im : imgL x = im
  off : x.off = false
  armed : x.armed = false
  whole : x.whole = 0
  writes : x.writes = 0
theorem newX (n : Nat) (im : List UInt8) (hl : im.length = n * 512) : ∃ x, NewX x n im := ⟨fromX n im, rfl, imgL_from n im hl, rfl, rfl, rfl, rfl⟩
theorem begun_any {L g n c : Nat} {im : List UInt8} {R : List (Ent L)} (w : World) (h : Held R w) (hL : L ≤ w.heap.size) (hb : ∀ W, Below L w W → Held R W → By W (.slice (some ⟨g, 0, none⟩) (n * 512) c) im) (hil : im.length = n * 512) (hn : 1 ≤ n) (hn2 : n ≤ 1000) (hc : n * 512 ≤ c) :
    Calls Try.prog 24 #[.slice (some ⟨g, 0, none⟩) (n * 512) c] w fun e w' => ∃ (x : DV) (kb p s sb jb : Nat) (y : JV) (iv hv : Value) (hs : List (Value × List UInt8)) (k : Nat), e = .returned (.pointer (some ⟨kb, 0, none⟩)) ∧ NewX x n im ∧ Full x.b n k ∧ JIs y p x k ∧ hs.map Prod.snd = (itR x.b k).1 ∧ (∃ ao c, hv = Value.slice ao hs.length c) ∧ hs.length = k ∧ Held (deskEs L kb p s sb jb x y iv (-1) 0 hv hs k (boxE L sb #[.bool false, .slice none 0 0, .slice none 0 0, .slice none 0 0] 87 :: R)) w' ∧ Below L w w' := by
  have hby := hb w (Below.refl _ _) h
  obtain ⟨_, _, _, e, hbl, hnil, hcell⟩ := id hby
  cases e
  have hcopy : ∀ W : World, Below L w W → Held R W → L ≤ W.heap.size → ∃ v1 w1, (∀ ty, (Builtin.append_ #[38, 38] ty #[.slice none 0 0, .slice (some ⟨g, 0, none⟩) (n * 512) c]).run Try.prog W = .ok v1 w1) ∧ w1.ownsRow W.heap.size 5 1 v1 (n * 512) (im.map B) ∧ Below W.heap.size W w1 := fun W hW hR hLW => by
    obtain ⟨_, _, _, e, hbl', hnil', hcell'⟩ := hb W hW hR
    cases e
    obtain ⟨v1, w1, hr1, ho1, hg1⟩ := app_rows (w := W) 38 5 (.int .u8 0) 1 1 Try.underlying38 info5' rfl (by decide) (by decide) (World.ownsRow_nil W W.heap.size 5 1) (ao := some ⟨g, 0, none⟩) (m := n * 512) (cap := c) (ys := im.map B) (by simp [hil]) hnil' hcell' (oneB im) (by omega) (Nat.le_refl _)
    rw [Nat.zero_add, List.nil_append] at ho1
    exact ⟨v1, w1, hr1, ho1, hg1.below (fun q hq => by cases hq) (Nat.le_refl _)⟩
  obtain ⟨v1, w1, hr1, ho1, hb1⟩ := hcopy w (Below.refl _ _) h hL
  have HR1 : Hid (∀ ty, (Builtin.append_ #[38, 38] ty #[.slice none 0 0, .slice (some ⟨g, 0, none⟩) (n * 512) c]).run Try.prog w = .ok v1 w1) := hr1
  obtain ⟨g1, c1, hv1, hc1, hby1⟩ : ∃ g1 c1, v1 = .slice (some ⟨g1, 0, none⟩) (n * 512) c1 ∧ n * 512 ≤ c1 ∧ By w1 (.slice (some ⟨g1, 0, none⟩) (n * 512) c1) im := by
    obtain ⟨x, hx⟩ := newX n im hil
    have h9 : w1.ownsRow w.heap.size 5 1 v1 (x.n * 512) ((imgL x).map B) := by rw [hx.im, hx.n]; exact ho1
    have := im_lit h9 (by rw [hx.n]; exact hn)
    rw [hx.im, hx.n] at this
    exact this
  have HFR : Hid (∃ x, NewX x n im ∧ Calls Try.prog 44 #[.slice (some ⟨g1, 0, none⟩) (n * 512) c1] w1 fun e w' => e = .returned (.tuple #[.pointer (some ⟨w1.heap.size + 1, 0, none⟩), .int .i64 0]) ∧ DM w1.heap.size (w1.heap.size + 1) w1.heap.size x w' ∧ Below w1.heap.size w1 w') := ⟨fromX n im, ⟨rfl, imgL_from n im hil, rfl, rfl, rfl, rfl⟩, from_yes w1 ⟨hn, by omega⟩ hby1 hc1⟩
  obtain ⟨x, hx, hfr⟩ := HFR.out
  have HXX : Hid (NewX x n im) := hx
  have HFR : Hid _ := hfr
  clear hx hfr
  have H1 : Hid (Held R w1 ∧ Below L w w1 ∧ L ≤ w1.heap.size) := ⟨h.more hb1, hb1.mono hL, Nat.le_trans hL hb1.size⟩
  have HCP : Hid _ := hcopy
  have HNN : Hid (1 ≤ n ∧ n ≤ 1000 ∧ im.length = n * 512 ∧ L ≤ w.heap.size) := ⟨hn, hn2, hil, hL⟩
  have hcopy2 : True := trivial
  subst hv1
  clear h hL hb hil hn hn2 hc hby hbl hnil hcell hcopy hr1 ho1 hb1 hc1 hby1 hcopy2
  go_enter Try.func24, Try.ntmps24
  go_wp2_with (at_builtin; refine wpList_runs rfl _ _ 38 rfl rfl rfl HR1.out ?_)
  clear HR1
  refine Calls.mono HFR.out ?_
  rintro e w2 ⟨rfl, hd2, hb2⟩
  clear HFR
  have h2 : Held (dmE L (w1.heap.size + 1) w1.heap.size x :: R) w2 := Held.fresh H1.out.1 hb2 (hd2.low H1.out.2.2) (fun k hk => by rcases hk with hk | hk <;> omega)
  have hb2' : Below L w w2 := H1.out.2.1.trans (hb2.mono H1.out.2.2)
  obtain ⟨p, hp⟩ : ∃ p, p = w1.heap.size + 1 := ⟨_, rfl⟩
  obtain ⟨s, hs⟩ : ∃ s, s = w1.heap.size := ⟨_, rfl⟩
  rw [← hp, ← hs] at h2
  rw [← hp]
  have hLs2 : L ≤ w2.heap.size := Nat.le_trans HNN.out.2.2.2 hb2'.size
  obtain ⟨iv, w3, hr3, ho3, hb3⟩ := HCP.out w2 hb2' h2.drop hLs2
  have HR3 : Hid (∀ ty, (Builtin.append_ #[38, 38] ty #[.slice none 0 0, .slice (some ⟨g, 0, none⟩) (n * 512) c]).run Try.prog w2 = .ok iv w3) := hr3
  have h3 : Held (imE L iv x :: dmE L p s x :: R) w3 := Held.fresh h2 hb3 (by
    show w3.ownsRow L 5 1 iv (x.n * 512) ((imgL x).map B)
    rw [HXX.out.im, HXX.out.n]
    exact ownsRow_mono ho3 hLs2) (fun k hk => (ownsRow_lt ho3 hk).1)
  have hb3' : Below L w w3 := hb2'.trans (hb3.mono hLs2)
  obtain ⟨ivo, ivc, hive, _⟩ := own_slice ho3
  obtain ⟨w4, hw4⟩ : ∃ w4, w4 = w3.alloc (.cells #[.bool false, .slice none 0 0, .slice none 0 0, .slice none 0 0] 87) := ⟨_, rfl⟩
  obtain ⟨sb, hsb⟩ : ∃ sb, sb = w3.heap.size := ⟨_, rfl⟩
  have hb4 : Below w3.heap.size w3 w4 := by rw [hw4]; exact (Below.refl _ _).alloc (Nat.le_refl _) _
  have hLs3 : L ≤ w3.heap.size := Nat.le_trans HNN.out.2.2.2 hb3'.size
  have h4 : Held (boxE L sb #[.bool false, .slice none 0 0, .slice none 0 0, .slice none 0 0] 87 :: imE L iv x :: dmE L p s x :: R) w4 := Held.fresh h3 hb4 ⟨by rw [hw4, hsb]; exact heap_alloc_new w3 _, by rw [hsb]; exact hLs3⟩ (fun k hk => by have : k = sb := hk; omega)
  obtain ⟨w5, hw5⟩ : ∃ w5, w5 = w4.alloc (.cells (deskC p (.pointer none) iv true (-1) 0 (.slice none 0 0) 0 false sb) 64) := ⟨_, rfl⟩
  obtain ⟨kb, hkb⟩ : ∃ kb, kb = w4.heap.size := ⟨_, rfl⟩
  have hb5 : Below w4.heap.size w4 w5 := by rw [hw5]; exact (Below.refl _ _).alloc (Nat.le_refl _) _
  have hLs4 : L ≤ w4.heap.size := Nat.le_trans hLs3 hb4.size
  have h5 : Held (boxE L kb (deskC p (.pointer none) iv true (-1) 0 (.slice none 0 0) 0 false sb) 64 :: boxE L sb #[.bool false, .slice none 0 0, .slice none 0 0, .slice none 0 0] 87 :: imE L iv x :: dmE L p s x :: R) w5 := Held.fresh h4 hb5 ⟨by rw [hw5, hkb]; exact heap_alloc_new w4 _, by rw [hkb]; exact hLs4⟩ (fun k hk => by have : k = kb := hk; omega)
  have h6 : Held (boxE L kb (deskC p (.pointer none) iv true (-1) 0 (.slice none 0 0) 0 false sb) 64 :: imE L iv x :: dmE L p s x :: (boxE L sb #[.bool false, .slice none 0 0, .slice none 0 0, .slice none 0 0] 87 :: R)) w5 := h5.perm (List.Perm.cons _ ((List.Perm.swap ..).trans (List.Perm.cons _ (List.Perm.swap ..))))
  have hb5' : Below L w w5 := (hb3'.trans (hb4.mono hLs3)).trans (hb5.mono hLs4)
  have HOP : Hid _ := opens_any w5 h6 HXX.out.off (by rw [HXX.out.n]; exact HNN.out.1) (by rw [HXX.out.n]; exact HNN.out.2.1)
  have HB5 : Hid (Below L w w5) := hb5'
  have hcs : deskC p (.pointer none) iv true (-1) 0 (.slice none 0 0) 0 false sb = #[.pointer (some ⟨p, 0, none⟩), .pointer none, iv, .bool true, .int .i64 (-1), .int .i64 0, .slice none 0 0, .int .i64 0, .bool false, .pointer (some ⟨sb, 0, none⟩)] := rfl
  rw [hcs] at hw5
  have HIV : Hid (iv = .slice ivo (n * 512) ivc) := hive
  subst hive
  clear hd2 hb2 h2 hb2' hp hs hLs2 hr3 ho3 hb3 h3 hb3' hb4 hLs3 h4 hb5 hLs4 h5 h6 hb5' hcs
  go_wp2_with (at_builtin; refine wpList_runs rfl _ _ 38 rfl rfl rfl HR3.out ?_)
  clear HR3
  try rw [← hsb]
  try rw [← hw4]
  have hks : sb + 1 = kb := by rw [hkb, hw4, World.size_alloc, ← hsb]
  try rw [← hw5]
  rw [hks]
  clear hks
  refine Calls.mono HOP.out ?_
  rintro e w6 ⟨rfl, jb, y, k, hv, hs, e1, e2, e3, e4, e5, e6, e7⟩
  have HN : Hid (NewX x n im ∧ Full x.b n k ∧ JIs y p x k ∧ hs.map Prod.snd = (itR x.b k).1 ∧ (∃ ao c, hv = Value.slice ao hs.length c) ∧ hs.length = k ∧ Held (deskEs L kb p s sb jb x y (.slice ivo (n * 512) ivc) (-1) 0 hv hs k (boxE L sb #[.bool false, .slice none 0 0, .slice none 0 0, .slice none 0 0] 87 :: R)) w6 ∧ Below L w w6) := ⟨HXX.out, by rw [← HXX.out.n]; exact e1, e2, e3, e4, e5, e6, HB5.out.trans e7⟩
  clear HOP e1 e2 e3 e4 e5 e6 e7 hw4 hw5 hsb hkb
  go_wp2_with fail
  go_ret
  exact ⟨x, kb, p, s, sb, jb, y, _, hv, hs, k, rfl, HN.out⟩
end Go.Proofs.Ytjpdcahodmomgaa
