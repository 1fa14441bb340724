import Derived.Test.YtjpdcahodmomgaaJn25
namespace Go.Proofs.Ytjpdcahodmomgaa
open Go.RowKit Go.PlainAid
set_option linter.unusedVariables false
set_option linter.unusedSimpArgs false
/-- A journal that has read so many records of a disk. -/
structure JIs (y : JV) (p : Nat) (x : DV) (k : Nat) : Prop where
  p : y.p = p
  recs : y.recs.map Prod.snd = (itR x.b k).1
  next : y.next = (itR x.b k).2
  fin : y.fin = x.n
theorem JIs.len {y : JV} {p : Nat} {x : DV} {k : Nat} (h : JIs y p x k) : y.recs.length = k := by
  have := congrArg List.length h.recs
  rw [itR_len, List.length_map] at this
  exact this
theorem full_is (b : Nat → UInt8) (n : Nat) : ∃ k, k ≤ n ∧ Full b n k := by
  obtain ⟨m, h1, h2, h3⟩ := first_bad (fun j => RecOk b n (itR b j).2 (j + 1)) (n + 1)
  have h4 := Upto.le (b := b) (n := n) (k := m) h2
  exact ⟨m, by omega, h2, h3 (by omega)⟩
theorem itR_next (b : Nat → UInt8) (k : Nat) : itR b (k + 1) = ((itR b k).1 ++ [recB b (itR b k).2 (lenIn (secL b (itR b k).2))], (itR b k).2 + kS (lenIn (secL b (itR b k).2))) := rfl
theorem JIs.more {y : JV} {p : Nat} {x : DV} {k : Nat} (h : JIs y p x k) (rv' v : Value) : JIs (y.added rv' v (recB x.b y.next (lenIn (secL x.b y.next)))) p x (k + 1) := by
  refine ⟨h.p, ?_, ?_, h.fin⟩
  · show (y.recs ++ [(v, _)]).map Prod.snd = _
    rw [List.map_append, h.recs, itR_next, h.next, List.map_cons, List.map_nil]
  · show y.next + kS (recB x.b y.next (lenIn (secL x.b y.next))).length = _
    rw [recB_len, itR_next, h.next]
theorem jis_read {L jb s p k : Nat} {y : JV} {x : DV} {R : List (Ent L)} (w wr : World) (hj : JIs y p x k) (h : Held (y.es L jb ++ (dmE L p s x :: R)) wr) (hb : Below L w wr) (ho : x.off = false) (hxn : x.n ≤ 1000) (hu : Upto x.b x.n (k + 1)) :
    Calls Try.prog 36 #[.pointer (some ⟨jb, 0, none⟩)] wr fun e w' => ∃ vo n c, e = .returned (.tuple #[.slice vo n c, .bool true]) ∧ (∀ W, (∃ q, W = w'.drewN q) → Calls Try.prog 37 #[.pointer (some ⟨jb, 0, none⟩), .slice vo n c] W fun e w2 => e = .returned (.tuple #[]) ∧ ∃ y', JIs y' p x (k + 1) ∧ Held (y'.es L jb ++ (dmE L p s x :: R)) w2 ∧ Below L w w2) := by
  have hle := Upto.le hu
  have hle0 := Upto.le (fun j hj => hu j (by omega) : Upto x.b x.n k)
  have hok : RecOk x.b x.n y.next (y.recs.length + 1) := by rw [hj.next, hj.len]; exact hu k (by omega)
  have hlen := hj.len
  have hpp := hj.p
  subst hpp
  have hL := jlow h
  have hry := read_yes_any wr h ho (by omega) (by have := hle0.1; omega) hok
  have hmore := fun rv' v => hj.more rv' v
  have hbl := recB_len x.b y.next (lenIn (secL x.b y.next))
  have hl8 := hok.2.1
  generalize recB x.b y.next (lenIn (secL x.b y.next)) = bs at hry hmore hbl
  generalize lenIn (secL x.b y.next) = len at hry hbl hl8
  refine hry.mono ?_
  rintro e w' ⟨v', rfl, h1, h2⟩
  obtain ⟨vo, c, rfl, hc⟩ := own_slice h1
  refine ⟨vo, _, c, rfl, fun W hW => ?_⟩
  obtain ⟨q, rfl⟩ := hW
  have h3 : Held (datE L (.slice vo len c, bs) :: (y.es L jb ++ (dmE L y.p s x :: R))) (w'.drewN q) := by
    refine Held.fresh h (below_dr h2 q) ?_ (fun k hk => (ownsRow_lt h1 hk).1)
    show World.ownsRow _ L 5 1 _ bs.length _
    rw [hbl]
    exact ownsRow_mono (ownsRow_same h1 (fun _ _ => rfl)) hL
  have h4 : Held (y.es L jb ++ (datE L (.slice vo len c, bs) :: (dmE L y.p s x :: R))) (w'.drewN q) := h3.perm List.perm_middle.symm
  refine (add_any (w'.drewN q) h4 hbl hl8 (by have := hle0.1; omega) (by rw [hj.next]; have := hle0.2.1; omega)).mono ?_
  rintro e w2 ⟨rfl, rv', h5, h6⟩
  refine ⟨rfl, _, hmore rv' _, h5, (hb.trans (below_dr (h2.mono hL) q)).trans (h6.below (Nat.le_trans hL h2.size) (fun k hk => ?_))⟩
  rcases hk with hk | hk
  · rw [hk]; exact (h.all (boxE L jb y.cs 80) (by simp [JV.es])).2
  · exact (tail_lt (jrow h) k hk).1
set_option maxRecDepth 100000 in
set_option maxHeartbeats 3200000 in
theorem open_any {L p s : Nat} {x : DV} {R : List (Ent L)} (w : World) (h : Held (dmE L p s x :: R) w) (ho : x.off = false) (hxn : x.n ≤ 1000) :
    Calls Try.prog 14 #[.pointer (some ⟨p, 0, none⟩)] w fun e w' => ∃ jb y k, e = .returned (.tuple #[.pointer (some ⟨jb, 0, none⟩), .int .i64 0]) ∧ Full x.b x.n k ∧ JIs y p x k ∧ Held (y.es L jb ++ (dmE L p s x :: R)) w' ∧ Below L w w' := by
  have hd : DM L p s x w := h.all _ (List.mem_cons_self ..)
  have HON : Hid _ := isOn_any w hd
  rw [ho] at HON
  have HSE : Hid _ := sectors_any w hd
  obtain ⟨w1, hw1⟩ : ∃ w1, w1 = w.alloc (.cells (jv0 p x.n).cs 80) := ⟨_, rfl⟩
  have hb1 : Below w.heap.size w w1 := by rw [hw1]; exact (Below.refl _ _).alloc (Nat.le_refl _) _
  have hB1 : Blk w1 w.heap.size (jv0 p x.n).cs 80 := by rw [hw1]; exact heap_alloc_new w _
  have hL : L ≤ w.heap.size := by have := hd.lt (Or.inl rfl : down p s p); omega
  obtain ⟨jb, hjb⟩ : ∃ jb, jb = w.heap.size := ⟨_, rfl⟩
  have h1 : Held ((jv0 p x.n).es L jb ++ (dmE L p s x :: R)) w1 := by
    have h2 : Held (boxE L jb (jv0 p x.n).cs 80 :: dmE L p s x :: R) w1 := Held.fresh h hb1 ⟨by rw [hjb]; exact hB1, by rw [hjb]; exact hL⟩ (fun k hk => by have : k = jb := hk; omega)
    have h3 : Held (tailE L 38 (.slice none 0 0) 0 [] :: boxE L jb (jv0 p x.n).cs 80 :: dmE L p s x :: R) w1 := h2.add (tail_nil _ _ _) (fun k hk => by cases hk)
    exact h3.perm (List.Perm.swap ..)
  obtain ⟨K, hK, hF⟩ := full_is x.b x.n
  have H1 : Hid (∃ y, JIs y p x 0 ∧ Held (y.es L jb ++ (dmE L p s x :: R)) w1 ∧ Below L w w1) := ⟨jv0 p x.n, ⟨rfl, rfl, rfl, rfl⟩, h1, hb1.mono hL⟩
  have HF : Hid (Full x.b x.n K ∧ K ≤ x.n ∧ x.n ≤ 1000 ∧ x.off = false) := ⟨hF, hK, hxn, ho⟩
  have hcs : (jv0 p x.n).cs = #[.pointer (some ⟨p, 0, none⟩), .slice none 0 0, .int .i64 0, .int .i64 (x.n : Int), .bool false] := rfl
  rw [hcs] at hw1
  clear h hd hb1 hB1 h1 hcs ho hK hF hxn hL
  go_enter Try.func14, Try.ntmps14
  go_wp2_with fail
  refine Calls.mono HON.out ?_
  rintro e wa ⟨rfl, hwa⟩
  replace hwa := hwa.symm
  subst hwa
  clear HON
  go_wp2_with fail
  refine Calls.mono HSE.out ?_
  rintro e wa ⟨rfl, hwa⟩
  replace hwa := hwa.symm
  subst hwa
  clear HSE
  go_wp2_with fail
  rw [← hw1, ← hjb]
  clear hw1 hjb
  go_loopg [5, 6] (K + 1) (fun gk _ _ wr => ∃ k y, gk + k = K + 1 ∧ k ≤ K ∧ JIs y p x k ∧ Held (y.es L jb ++ (dmE L p s x :: R)) wr ∧ Below L w wr)
  case atStart =>
    obtain ⟨y, h2⟩ := H1.out
    exact ⟨0, y, by omega, Nat.zero_le _, h2⟩
  case round =>
    clear H1
    obtain ⟨k, y, hgk, hkK, hj, hH, hb⟩ := hrel
    by_cases hlt : k < K
    · have HR : Hid _ := jis_read w wr hj hH hb HF.out.2.2.2 HF.out.2.2.1 (fun j hj => HF.out.1.1 j (by omega))
      have HG : Hid (gk + k = K + 1) := hgk
      clear hj hH hb hgk
      go_wp2_with fail
      refine Calls.mono HR.out ?_
      rintro e w2 ⟨vo, n, c, rfl, hadd⟩
      have HA : Hid _ := hadd w2 ⟨0, rfl⟩
      clear hadd HR
      go_wp2_with fail
      refine Calls.mono HA.out ?_
      rintro e w3 ⟨rfl, y', g1, g2, g3⟩
      have HN : Hid (JIs y' p x (k + 1) ∧ Held (y'.es L jb ++ (dmE L p s x :: R)) w3 ∧ Below L w w3) := ⟨g1, g2, g3⟩
      clear HA g1 g2 g3
      go_wp2_with fail
      go_roundg (gk - 1)
      case rel => exact ⟨k + 1, y', by have := HG.out; omega, by omega, HN.out⟩
      case measure => have := HG.out; omega
    · obtain rfl : k = K := by omega
      have hle := Upto.le HF.out.1.1
      have hpp := hj.p
      have HR : Hid (Calls Try.prog 36 #[.pointer (some ⟨jb, 0, none⟩)] wr fun e w' => e = .returned (.tuple #[.slice none 0 0, .bool false]) ∧ Below wr.heap.size wr w') := by
        subst hpp
        exact read_no_any wr hH HF.out.2.2.2 (by have := HF.out.2.2.1; omega) (by rw [hj.len]; have := HF.out.2.2.1; omega) (by rw [hj.next]; have := HF.out.2.2.1; omega) (by rw [hj.next, hj.len]; exact HF.out.1.2)
      have HH : Hid (JIs y p x k ∧ Held (y.es L jb ++ (dmE L p s x :: R)) wr ∧ Below L w wr) := ⟨hj, hH, hb⟩
      clear hj hH hb hgk hle hpp
      go_wp2_with fail
      refine Calls.mono HR.out ?_
      rintro e w2 ⟨rfl, hb2⟩
      have HN : Hid (∃ jb' y k, Value.pointer (some ⟨jb, 0, none⟩) = Value.pointer (some ⟨jb', 0, none⟩) ∧ Full x.b x.n k ∧ JIs y p x k ∧ Held (y.es L jb' ++ (dmE L p s x :: R)) w2 ∧ Below L w w2) := ⟨jb, y, k, rfl, HF.out.1, HH.out.1, HH.out.2.1.more hb2, HH.out.2.2.trans (hb2.mono (jlow HH.out.2.1))⟩
      clear HR hb2 HH
      go_wp2_with fail
      go_ret2
      obtain ⟨jb', y, k, e, h2⟩ := HN.out
      cases e
      exact ⟨jb, y, k, rfl, h2⟩
end Go.Proofs.Ytjpdcahodmomgaa
