import Derived.Test.YtfgnlfemckdfnaaCutA
import Derived.Test.YtfgnlfemckdfnaaArgs
namespace Go.Proofs.Ytfgnlfemckdfnaa
open Go.RowKit Go.PlainAid
set_option linter.unusedSimpArgs false
set_option linter.unusedVariables false

theorem own_shrink {w : World} {base g cap n k : Nat} {xs ys : List UInt8} (h : w.ownsRow base 5 1 (.slice (some ⟨g, 0, none⟩) (n + k) cap) (n + k) ((xs ++ ys).map B)) (hx : xs.length = n) : w.ownsRow base 5 1 (.slice (some ⟨g, 0, none⟩) n cap) n (xs.map B) := by
  refine ⟨by simp [hx], ?_⟩
  rcases h.2 with ⟨h1, _⟩ | ⟨g', cap', cur, h1, h2, h3, h4, h5, h6, h7⟩
  · cases h1
  · cases h1
    refine Or.inr ⟨g, cap, cur, rfl, h2, h3, by omega, h5, h6, ?_⟩
    have e : (cur.toList.take ((n + k) * 1)).take n = ((xs ++ ys).map B).take n := by rw [h7]
    rw [List.take_take, Nat.min_eq_left (by omega), List.map_append, List.take_append_of_le_length (by simp [hx]), List.take_of_length_le (l := xs.map B) (by simp [hx])] at e
    rw [Nat.mul_one]
    exact e
/-- What is lent, cut to its length, is a row of its own. -/
theorem lent_own (ao : Option Addr) (n cap : Nat) (xs : List UInt8) (w : World) (hx : xs.length = n) (hnil : ao = none → n = 0 ∧ cap = 0) (hf : From w ao xs) (hn : n ≤ 140737488351232) :
    Calls Try.prog 11 #[.slice ao n cap] w (fun e w' => ∃ g c, e = .returned (.slice (some ⟨g, 0, none⟩) (n + 2) c) ∧ n + 2 ≤ c ∧ w.heap.size ≤ g ∧ g < w'.heap.size ∧ w'.ownsRow w.heap.size 5 1 (.slice (some ⟨g, 0, none⟩) n c) n (xs.map B) ∧ Below w.heap.size w w') := by
  go_enter Try.func11, Try.ntmps11
  go_wp2_with (first
    | (at_builtin; go_must (refine wpList_append_bytes rfl _ _ rfl w.heap.size 0 _ [] rfl (World.ownsRow_nil _ _ _ _) ao n cap xs rfl hx hnil hf (by omega) (Nat.le_refl _) ?_))
    | fail)
  intro v1 w1 hown1 hg1
  have hb1 : Below w.heap.size w w1 := (Below.refl _ _).grown hg1 (Nat.le_refl _) (fun k h => by cases h)
  have hown1 : w1.ownsRow w.heap.size 5 1 v1 n (xs.map B) := by simpa using hown1
  obtain ⟨ao1, cap1, rfl, hc1, _, hs1, hl1⟩ := own_from hown1
  have hm : From (w1.alloc (.cells #[.int .u8 165, .int .u8 90] 5 (0, 0))) (some ⟨w1.heap.size, 0, none⟩) [165, 90] := from_mark w1 [165, 90] _ _ rfl
  have hsz := hb1.size
  clear hg1
  go_wp2_with (first
    | (at_builtin; go_must (refine wpList_append_bytes rfl _ _ rfl w.heap.size n _ xs rfl (hown1.alloc _) _ 2 2 [165, 90] rfl rfl (by intro h; cases h) hm (by omega) (by simp; omega) ?_))
    | fail)
  intro v2 w2 hown2 hg2
  have hown2 : w2.ownsRow w.heap.size 5 1 v2 (n + 2) ((xs ++ [165, 90]).map B) := by simpa using hown2
  have hb2 : Below w.heap.size w w2 := (hb1.alloc hsz _).grown hg2 (by simp; omega) (fun k e => (hown1.lt k e).1)
  obtain ⟨ao2, cap2, rfl, hc2, hn2, hs2, _⟩ := own_from hown2
  cases ao2 with
  | none => have := (hn2 rfl).1; omega
  | some ad =>
    obtain ⟨g, hg⟩ : ∃ g, ad = ⟨g, 0, none⟩ := by
      rcases hown2.2 with ⟨h1, h2⟩ | ⟨g, cap, cur, h1, _⟩
      · omega
      · simp only [Value.slice.injEq, Option.some.injEq] at h1
        exact ⟨g, h1.1⟩
    subst hg
    have hlt := hown2.lt g rfl
    have hsh := own_shrink hown2 hx
    go_wp2
    go_ret
    exact ⟨g, cap2, rfl, hc2, hlt.1, hlt.2, hsh, hb2⟩

theorem from_take {w : World} {ao : Option Addr} {bs : List UInt8} (h : From w ao bs) (c : Nat) : From w ao (bs.take c) := by
  intro h0
  rw [List.length_take] at h0
  obtain ⟨b, off, e, hc⟩ := h (by omega)
  refine ⟨b, off, e, fun j u hu => hc j u ?_⟩
  rw [List.getElem?_take] at hu
  split at hu
  · exact hu
  · cases hu
theorem turned_from {w : World} {base g n c t : Nat} {bs : List UInt8} (h : w.ownsRow base 5 1 (.slice (some ⟨g, 0, none⟩) n c) n (bs.map B)) (hn : bs.length = n) (ht : t < n) (hc : n + 2 ≤ c) (to : UInt8) :
    (∃ u, w.cell? ⟨g, t, none⟩ = some u) ∧ w.frozen? ⟨g, t, none⟩ = false ∧ From (w.setCell ⟨g, t, none⟩ (.int .u8 (to.toNat : Int))) (some ⟨g, 0, none⟩) (bs.set t to) := by
  rcases h.2 with ⟨h1, _⟩ | ⟨g', c', cur, h1, _, hblk, _, _, hcs, htk⟩
  · cases h1
  · cases h1
    have hB : Blk w g cur 5 := hblk
    refine ⟨⟨_, (hB.cell t).trans (Array.getElem?_eq_getElem (by omega))⟩, hB.frozen t, fun _ => ⟨g, 0, rfl, fun j u hu => ?_⟩⟩
    rw [Nat.zero_add, (hB.set t (.int .u8 (to.toNat : Int))).cell j]
    by_cases e : t = j
    · subst e
      rw [List.getElem?_set_self (by omega)] at hu
      cases hu
      rw [Array.getElem?_setIfInBounds_self_of_lt (by omega)]
      rfl
    · rw [List.getElem?_set_ne e] at hu
      rw [Array.getElem?_setIfInBounds_ne e]
      have hj : j < n := by have := (List.getElem?_eq_some_iff.1 hu).1; omega
      have e2 : (cur.toList.take (n * 1))[j]? = (bs.map B)[j]? := by rw [htk]
      rw [List.getElem?_take, if_pos (by omega), List.getElem?_map, hu, Array.getElem?_toList] at e2
      exact e2
theorem zero_all : zeroC.all (·.oneCell') = true := by simp [zeroC, msgCells, Value.oneCell', Str, Msg.zero]
theorem zero_info : (Try.prog.info? 35).map (·.size) = some zeroC.size := by kernel_rfl

set_option maxRecDepth 100000 in
set_option maxHeartbeats 3200000 in
theorem cut_law (m : Msg) (ao : Option Addr) (cv : Nat) (w : World) (cut at' : Int) (bo : Option Addr) (nm cm : Nat) (ys : List UInt8) (to : UInt8)
    (hl : m.name.length ≤ 140737488355328) (hol : m.oname.length ≤ 140737488355328) (hsrc : VFrom w ao m.views) (hsb : ∀ b o, ao = some ⟨b, o, none⟩ → b < w.heap.size) (hnm : ∀ x ∈ m.views, x.name.length ≤ 140737488355328)
    (ha1 : (-9223372036854775808 : Int) ≤ m.oa) (ha2 : m.oa < 9223372036854775808) (hb1 : (-9223372036854775808 : Int) ≤ m.ob) (hb2 : m.ob < 9223372036854775808)
    (hc1 : (-9223372036854775808 : Int) ≤ cut) (hc2 : cut < 9223372036854775808) (ht1 : (-9223372036854775808 : Int) ≤ at') (ht2 : at' < 9223372036854775808)
    (hyn : ys.length = nm) (hynil : bo = none → nm = 0 ∧ cm = 0) (hyf : From w bo ys) (hyb : ∀ b o, bo = some ⟨b, o, none⟩ → b < w.heap.size) (hym : nm ≤ 140737488351232) :
    Calls Try.prog 4 #[.agg (msgCells m (.slice ao m.views.length cv)), .int .i64 cut, .slice bo nm cm, .int .i64 at', .int .u8 (to.toNat : Int)] w (fun e w' => e = .returned (.bool true) ∧ Below w.heap.size w w') := by
  have hva := fun W h1 h2 => rvalid_any m ao cv W hl hol h1 h2 hnm
  have hvi := validB_is m ha1 ha2 hb1 hb2
  have hen := fun (bs : List UInt8) (hw : message.wr m = some bs) W h1 h2 => (show Calls Try.prog 14 #[.agg (msgCells m (.slice ao m.views.length cv))] W (EncPost (some bs) W) from by rw [← hw, enc_is]; exact encode_any m ao cv W (fit_of hw).1 h1 h2)
  have hsm := fun (x : Msg) (vo : Option Addr) (vc : Nat) (W : World) => same_any x m vo ao vc cv W
  generalize hD : msgCells m (.slice ao m.views.length cv) = D at *
  have hsz : D.size = 20 := by rw [← hD]; rfl
  have hi35 : (Try.prog.info? 35).map (·.size) = some D.size := by rw [hsz]; kernel_rfl
  have hall : D.all (·.oneCell') = true := by rw [← hD]; simp [msgCells, Value.oneCell', Str]
  have HD : Hid _ := hD
  clear hD hl hol hnm ha1 ha2 hb1 hb2
  have hB0 : Blk (w.alloc (.cells D 35)) w.heap.size D 35 := heap_alloc_new w _
  have hw0 : Below w.heap.size w (w.alloc (.cells D 35)) := by go_grown
  have H0 : Hid _ := And.intro hsrc (And.intro hsb (And.intro hyf hyb))
  have HE : Hid _ := And.intro hva (And.intro hvi (And.intro hen hsm))
  clear hsrc hsb hyf hyb hva hvi hen hsm hsz
  go_enter Try.func4, Try.ntmps4
  go_wp2_with (first | (go_at_call 9; refine (able_any _).mono ?_; rintro e1 w1 ⟨rfl, hb1⟩; have hM1 : Blk w1 w.heap.size D 35 := (hb1.block _ (by simp)).trans hB0; have hW1 : Below w.heap.size w w1 := hw0.trans (hb1.mono hw0.size); clear hb1 hw0 hB0) | (refine wpList_load_row rfl 35 (.tmp 5) rfl w.heap.size rfl 35 D (0, 0) _ hM1 Try.underlying35 rfl hi35 ?_) | fail)
  have hsrc1 := H0.out.1.keep fun b o e => hW1.block b (H0.out.2.1 b o e)
  have hsb1 : ∀ b o, ao = some ⟨b, o, none⟩ → b < w1.heap.size := fun b o e => Nat.lt_of_lt_of_le (H0.out.2.1 b o e) hW1.size
  refine (HE.out.1 w1 hsrc1 hsb1).mono ?_
  rintro e2 w2 ⟨rfl, hb2⟩
  have hM2 : Blk w2 w.heap.size D 35 := (hb2.block _ hM1.lt).trans hM1
  have hW2 := hW1.trans (hb2.mono hW1.size)
  clear hb2 hM1 hW1 hsrc1 hsb1
  cases hv : validB m
  · go_wp2
    go_ret
    exact ⟨rfl, hW2⟩
  obtain ⟨bs, hbs⟩ : ∃ bs, message.wr m = some bs := Option.isSome_iff_exists.1 (by rw [HE.out.2.1, hv])
  have hpos := wr_pos hbs
  have hle := wr_le hbs
  have HB : Hid _ := hbs
  clear hbs hv
  go_wp2_with (first | (refine wpList_load_row rfl 35 (.tmp 5) rfl w.heap.size rfl 35 D (0, 0) _ hM2 Try.underlying35 rfl hi35 ?_) | fail)
  have hsrc2 := H0.out.1.keep fun b o e => hW2.block b (H0.out.2.1 b o e)
  have hsb2 : ∀ b o, ao = some ⟨b, o, none⟩ → b < w2.heap.size := fun b o e => Nat.lt_of_lt_of_le (H0.out.2.1 b o e) hW2.size
  refine (HE.out.2.2.1 bs HB.out w2 hsrc2 hsb2).mono ?_
  rintro e3 w3 ⟨hb3, v3, rfl, hv3⟩
  obtain ⟨g3, cap3, rfl, hg3⟩ : ∃ g c, v3 = .slice (some ⟨g, 0, none⟩) bs.length c ∧ bs.length ≤ c := by
    rcases hv3.2 with ⟨_, h⟩ | ⟨g, c, cur, h, _, _, h4, _⟩
    · omega
    · exact ⟨g, c, h, h4⟩
  have hlt3 := hv3.lt g3 rfl
  obtain ⟨_, _, he, _, _, hs3, _⟩ := own_from hv3
  cases he
  have hM3 : Blk w3 w.heap.size D 35 := (hb3.block _ hM2.lt).trans hM2
  have hW3 := hW2.trans (hb3.mono hW2.size)
  clear hb3 hM2 hv3 hsrc2 hsb2
  have hpos' : ((bs.length : Int) == 0) = false := by rw [beq_eq_false_iff_ne]; omega
  generalize hn : bs.length = n at *
  go_wp2_with fail
  refine (cwithin_any cut n hc1 hc2 hpos (by omega) w3).mono ?_
  rintro e4 w4 ⟨⟨c, hc, rfl⟩, rfl⟩
  go_wp2_with fail
  have hdc := decode_any g3 0 c cap3 (bs.take c) w4 (by rw [List.length_take]; omega) (from_take hs3 c) hlt3.2 (by omega) (by omega)
  rw [whole_cut HB.out (by omega)] at hdc
  refine hdc.mono ?_
  rintro e5 w5 ⟨hb5, rfl⟩
  clear hdc
  have hM5 : Blk w5 w.heap.size D 35 := (hb5.block _ hM3.lt).trans hM3
  have hW5 := hW3.trans (hb5.mono hW3.size)
  have hs5 := From.below hs3 hb5
  have hl5 : g3 < w5.heap.size := Nat.lt_of_lt_of_le hlt3.2 hb5.size
  clear hb5 hM3 hW3 hs3
  have hB0 : Blk (w5.alloc (.cells zeroC 35)) w5.heap.size zeroC 35 := heap_alloc_new w5 _
  have hb6 : Below w5.heap.size w5 ((w5.alloc (.cells zeroC 35)).setRow w5.heap.size zeroC) := (show Below w5.heap.size w5 (w5.alloc _) from by go_grown).trans ⟨rfl, rfl, rfl, by simp [World.setRow], fun k hk => setRow_other _ _ _ _ (by omega)⟩
  go_wp2_with (first | (refine wpList_store_row rfl 35 (.tmp 13) (.tmp 48) rfl w5.heap.size zeroC rfl rfl 35 zeroC hB0 zero_info rfl zero_all ?_) | fail)
  show Calls Try.prog 11 _ ((w5.alloc (.cells zeroC 35)).setRow w5.heap.size zeroC) _
  have hM6 : Blk ((w5.alloc (.cells zeroC 35)).setRow w5.heap.size zeroC) w.heap.size D 35 := (hb6.block _ hM5.lt).trans hM5
  have hW6 := hW5.trans (hb6.mono hW5.size)
  have hs6 := From.below hs5 hb6
  have hl6 := Nat.lt_of_lt_of_le hl5 hb6.size
  generalize (w5.alloc (.cells zeroC 35)).setRow w5.heap.size zeroC = W6 at *
  clear hb6 hM5 hW5 hs5 hl5 hB0
  refine (lent_own (some ⟨g3, 0, none⟩) n cap3 bs W6 hn (by intro h; cases h) hs6 (by omega)).mono ?_
  rintro e7 w7 ⟨g7, c7, rfl, hc7, hg7, hl7, hown7, hb7⟩
  have hy6 := From.below H0.out.2.2.1 hW6
  have HW : Hid _ := And.intro hM6 (And.intro hW6 (And.intro hs6 (And.intro hl6 hy6)))
  clear hM6 hW6 hs6 hl6 hy6 hg7 hl7
  go_wp2_with fail
  go_loopw [16, 17] (fun lv iv wr => ∃ k : Nat, k ≤ nm ∧ k ≤ 40 ∧ iv = .int .i64 (k : Nat) ∧ wr.ownsRow W6.heap.size 5 1 lv (n + k) ((bs ++ ys.take k).map B) ∧ Below W6.heap.size W6 wr) (fun _ iv _ => 40 - (intOf iv).toNat)
  case atStart => exact ⟨0, by omega, by omega, rfl, by simpa using hown7, hb7⟩
  case round =>
    obtain ⟨k, hk1, hk2, rfl, hown, hb⟩ := hrel
    by_cases hlt : k < nm ∧ k < 40
    · obtain ⟨hka, hkb⟩ := hlt
      obtain ⟨u, hu⟩ : ∃ u, ys[k]? = some u := ⟨_, List.getElem?_eq_getElem (by omega)⟩
      obtain ⟨bb, boff, rfl, hcy⟩ := HW.out.2.2.2.2 (by omega)
      have hcu : ∀ wx, Below W6.heap.size W6 wx → wx.cell? ⟨bb, boff + k, none⟩ = some (.int .u8 (u.toNat : Int)) := fun wx hx => (hx.cell (Nat.lt_of_lt_of_le (H0.out.2.2.2 bb boff rfl) HW.out.2.1.size)).trans (hcy k u hu)
      have hcu' := hcu _ hb
      have hm := from_mark wr [u] #[.int .u8 (u.toNat : Int)] (0, 0) rfl
      have hsz := hb.size
      have ht : ys.take (k + 1) = ys.take k ++ [u] := by rw [List.take_add_one, hu]; rfl
      have HT : Hid _ := ht
      clear hcu hcy hu ht
      go_wp2_with (first | (at_builtin; go_must (refine wpList_append_bytes rfl _ _ rfl W6.heap.size (n + k) _ (bs ++ ys.take k) rfl (hown.alloc _) _ 1 1 [u] rfl rfl (by intro h; cases h) hm (by omega) (by simp; omega) ?_)) | fail)
      intro v' w' hown' hg'
      have hb' : Below W6.heap.size W6 w' := (hb.alloc hsz _).grown hg' (by simp; omega) (fun j e => (hown.lt j e).1)
      have hown'' : w'.ownsRow W6.heap.size 5 1 v' (n + (k + 1)) ((bs ++ ys.take (k + 1)).map B) := by rw [HT.out]; simpa [Nat.add_assoc] using hown'
      clear hg' hm hown hb hsz hcu'
      go_wp2
      go_roundw
      case rel => exact ⟨k + 1, by omega, by omega, by go_num, hown'', hb'⟩
      case measure => simp [intOf]; omega
    · have h3 : (¬ k < nm ∧ k = 0) ∨ (¬ k < nm ∧ 0 < k) ∨ (k < nm ∧ ¬ k < 40 ∧ 0 < k) := by omega
      rcases hown.2 with ⟨_, h⟩ | ⟨g8, c8, cur8, h, hbs8, _, hcap8, _⟩
      · omega
      obtain ⟨_, _, he, _, _, hs8, hlen8⟩ := own_from hown
      rw [h] at he
      cases he
      have hlt8 := (hown.lt g8 (by rw [h]; rfl)).2
      subst h
      have hlenk : (ys.take k).length = k := by rw [List.length_take]; omega
      have HK : Hid _ := hlenk
      clear hown hlenk
      have hdc := decode_any g8 0 (n + k) c8 (bs ++ ys.take k) wr hlen8 hs8 hlt8 (by omega) (by omega)
      rw [whole_more HB.out] at hdc
      have HDC : Hid _ := hdc
      clear hdc
      rcases h3 with ⟨hka, rfl⟩ | ⟨hka, hk0⟩ | ⟨hka, hkb, hk0⟩
      all_goals (
        go_wp2_with fail
        have hdc := HDC.out
        first
          | (rw [if_pos (show ys.take 0 = [] from rfl)] at hdc
             simp only [Nat.add_zero] at hdc
             refine Calls.mono hdc ?_
             rintro e9 w9 ⟨hb9, ao9, c9, rfl, hv9⟩
             clear hv9)
          | (rw [if_neg (by intro h; have := HK.out; rw [h] at this; simp at this; omega)] at hdc
             refine Calls.mono hdc ?_
             rintro e9 w9 ⟨hb9, rfl⟩)
        clear hdc
        have hB9 : Below W6.heap.size W6 w9 := hb.trans (hb9.mono hb.size)
        have hM9 : Blk w9 w.heap.size D 35 := (hB9.block _ HW.out.1.lt).trans HW.out.1
        have hW9 : Below w.heap.size w w9 := HW.out.2.1.trans (hB9.mono HW.out.2.1.size)
        have hs9 := From.below HW.out.2.2.1 hB9
        have hl9 : g3 < w9.heap.size := Nat.lt_of_lt_of_le HW.out.2.2.2.1 hB9.size
        clear hb9 hB9 hb hs8 hlen8 hlt8
        go_wp2_with fail
        refine (cwithin_any at' n ht1 ht2 hpos (by omega) w9).mono ?_
        rintro e10 w10 ⟨⟨t, ht, rfl⟩, rfl⟩
        obtain ⟨y, hy⟩ : ∃ y, bs[t]? = some y := ⟨_, List.getElem?_eq_getElem (by omega)⟩
        have hcy : w10.cell? ⟨g3, t, none⟩ = some (.int .u8 (y.toNat : Int)) := by
          obtain ⟨b0, o0, e0, h0⟩ := hs9 (by omega)
          cases e0
          have := h0 t y hy
          rwa [Nat.zero_add] at this
        by_cases hyt : y = to
        · subst hyt
          go_wp2
          go_ret
          exact ⟨rfl, hW9⟩
        · have hne : ((y.toNat : Int) == (to.toNat : Int)) = false := by
            rw [beq_eq_false_iff_ne]
            intro h
            exact hyt (u8_eq (by omega))
          have HY : Hid _ := And.intro hy hyt
          clear hy hyt
          go_wp2_with fail
          refine (lent_own (some ⟨g3, 0, none⟩) n cap3 bs w10 hn (by intro h; cases h) hs9 (by omega)).mono ?_
          rintro e11 w11 ⟨g11, c11, rfl, hc11, hg11, hl11, hown11, hb11⟩
          have hM11 : Blk w11 w.heap.size D 35 := (hb11.block _ hM9.lt).trans hM9
          have hW11 := hW9.trans (hb11.mono hW9.size)
          have hne11 : w.heap.size ≠ g11 := by have := hM9.lt; omega
          have hge11 : w.heap.size ≤ g11 := by have := hM9.lt; omega
          obtain ⟨⟨u12, hc12⟩, hf12, hs12⟩ := turned_from hown11 hn ht hc11 to
          have hb12 : Below w.heap.size w (w11.setCell ⟨g11, t, none⟩ (.int .u8 (to.toNat : Int))) := hW11.setCell hge11 _
          have hM12 : Blk (w11.setCell ⟨g11, t, none⟩ (.int .u8 (to.toNat : Int))) w.heap.size D 35 := hM11.other _ _ _ hne11
          have hl12 : g11 < (w11.setCell ⟨g11, t, none⟩ (.int .u8 (to.toNat : Int))).heap.size := by rw [World.size_setCell]; exact hl11
          clear hb11 hown11 hM11 hW11 hM9 hW9 hs9 hl9 hcy hne hg11 hl11
          have H12 : Hid _ := And.intro hs12 (And.intro hb12 (And.intro hM12 hl12))
          clear hs12 hb12 hM12 hl12
          go_wp2_with fail
          obtain ⟨hs12, hb12, hM12, hl12⟩ := H12.out
          refine (decode_any g11 0 n c11 (bs.set t to) _ (by rw [List.length_set]; exact hn) hs12 hl12 (by omega) (by omega)).mono ?_
          generalize w11.setCell ⟨g11, t, none⟩ (.int .u8 (to.toNat : Int)) = W12 at *
          intro e13 w13 h13
          obtain ⟨hb13, x, vo, vc, pl, er, rfl, hv13, htk⟩ := dec_took h13
          obtain ⟨hvf, hvb⟩ := VRow.vfrom hv13
          have hW13 := hb12.trans (hb13.mono hb12.size)
          have hM13 : Blk w13 w.heap.size D 35 := (hb13.block _ hM12.lt).trans hM12
          clear h13 hb13 hM12 hb12 hs12 hl12 hv13
          have hall2 : (msgCells x (.slice vo x.views.length vc)).all (·.oneCell') = true := by simp [msgCells, Value.oneCell', Str]
          have hsx := HE.out.2.2.2 x vo vc
          have hvx := fun W hf h1 h2 => valid_any x vo vc W hf h1 h2
          generalize hD2 : msgCells x (.slice vo x.views.length vc) = D2 at *
          have hsz2 : D2.size = 20 := by rw [← hD2]; rfl
          have hi2 : (Try.prog.info? 35).map (·.size) = some D2.size := by rw [hsz2]; kernel_rfl
          clear hD2
          have hB0 : Blk (w13.alloc (.cells zeroC 35)) w13.heap.size zeroC 35 := heap_alloc_new w13 _
          have hBx := setRow_blk (cs := D2) hB0
          have hb14 : Below w13.heap.size w13 ((w13.alloc (.cells zeroC 35)).setRow w13.heap.size D2) := (show Below w13.heap.size w13 (w13.alloc _) from by go_grown).trans ⟨rfl, rfl, rfl, by simp [World.setRow], fun k hk => setRow_other _ _ _ _ (by omega)⟩
          have hM14 : Blk ((w13.alloc (.cells zeroC 35)).setRow w13.heap.size D2) w.heap.size D 35 := (hb14.block _ hM13.lt).trans hM13
          have hW14 := hW13.trans (hb14.mono hW13.size)
          rcases htk with ⟨rfl, rfl, hwx⟩ | ⟨rfl, hp1, hp2, rfl⟩
          · have hneq : sameB x m = false := by
              rw [Bool.eq_false_iff]
              intro h
              refine wr_inj HB.out hwx ?_ ((sameB_iff x m).1 h)
              intro e
              have h1 := HY.out.1
              rw [e, List.getElem?_set_self (by omega)] at h1
              exact HY.out.2 (Option.some.inj h1).symm
            have hfx := fit_of hwx
            have hisx : (message.wr x).isSome = true := by rw [hwx]; rfl
            have hv14 : VFrom ((w13.alloc (.cells zeroC 35)).setRow w13.heap.size D2) vo x.views := hvf.keep fun b o e => hb14.block b (hvb b o e)
            have hvb14 : ∀ b o, vo = some ⟨b, o, none⟩ → b < ((w13.alloc (.cells zeroC 35)).setRow w13.heap.size D2).heap.size := fun b o e => by have := hvb b o e; have := hb14.size; omega
            have hsa := hsx _ hv14 (H0.out.1.keep fun b o e => hW14.block b (H0.out.2.1 b o e)) hvb14 (fun b o e => Nat.lt_of_lt_of_le (H0.out.2.1 b o e) hW14.size) (by have := hfx.2; omega)
            rw [hneq] at hsa
            have HS : Hid _ := hsa
            have HX : Hid _ := And.intro hvx (And.intro hfx.1 (And.intro hisx (And.intro hv14 hvb14)))
            have HW14 : Hid _ := hW14
            clear hsa hvx hfx hisx hv14 hvb14 hsx hvf hvb hneq hwx hW14 hW13 hM13
            go_wp2_with (first | (refine wpList_store_row rfl 35 (.tmp 19) (.tmp 134) rfl w13.heap.size D2 rfl rfl 35 zeroC hB0 hi2 (by rw [hsz2]; rfl) hall2 ?_) | (refine load_row_g 35 (.tmp 19) rfl (by rfl) w13.heap.size rfl 35 D2 (0, 0) _ hBx Try.underlying35 hi2 ?_) | (refine load_row_g 35 (.tmp 5) rfl (by rfl) w.heap.size rfl 35 D (0, 0) _ hM14 Try.underlying35 hi35 ?_) | fail)
            show Calls Try.prog 13 _ ((w13.alloc (.cells zeroC 35)).setRow w13.heap.size D2) _
            refine Calls.mono HS.out ?_
            rintro e15 w15 ⟨rfl, hb15⟩
            have hBx15 : Blk w15 w13.heap.size D2 35 := (hb15.block _ hBx.lt).trans hBx
            have hvy := HX.out.1 w15 HX.out.2.1 (HX.out.2.2.2.1.keep fun b o e => hb15.block b (HX.out.2.2.2.2 b o e)) (fun b o e => Nat.lt_of_lt_of_le (HX.out.2.2.2.2 b o e) hb15.size)
            rw [HX.out.2.2.1] at hvy
            have hW15 := HW14.out.trans (hb15.mono HW14.out.size)
            have HVY : Hid _ := And.intro hvy hW15
            clear hvy hb15 hM14 hBx hB0 hW15
            go_wp2_with (first | (refine load_row_g 35 (.tmp 19) rfl (by rfl) w13.heap.size rfl 35 D2 (0, 0) _ hBx15 Try.underlying35 hi2 ?_) | (go_at_call 25; refine Calls.mono HVY.out.1 ?_; rintro e16 w16 ⟨rfl, hb16⟩) | fail)
            go_ret
            exact ⟨rfl, HVY.out.2.trans (hb16.mono HVY.out.2.size)⟩
          · have HW14 : Hid _ := hW14
            clear hvx hsx hvf hvb hp1 hp2 hW14 hW13 hM13 hM14 hBx
            go_wp2_with (first | (refine wpList_store_row rfl 35 (.tmp 19) (.tmp 134) rfl w13.heap.size D2 rfl rfl 35 zeroC hB0 hi2 (by rw [hsz2]; rfl) hall2 ?_) | fail)
            go_ret
            exact ⟨rfl, HW14.out⟩)
end Go.Proofs.Ytfgnlfemckdfnaa
namespace Go.Proofs.Ytfgnlfemckdfnaa
open Go.ChangeShapes Go.WideShapes Go.ChangeAt Go.RowKit Go.WideMaps Go.WideElems

set_option maxRecDepth 100000 in
theorem has_lt {W : World} {base n : Nat} {a : Addr} {e : TypeId} (h : W.has Try.prog .any base a e n) : a.block < W.heap.size := by
  obtain ⟨_, _, row, cells, hs, _⟩ := h
  unfold World.shape? at hs
  cases hb : W.heap[a.block]? with
  | none => rw [hb] at hs; cases hs
  | some x => exact (Array.getElem?_eq_some_iff.1 hb).1
set_option maxRecDepth 100000 in
/-- The block of a slice that came in is there. -/
theorem slice_lt {W : World} {base n c : Nat} {ao : Option Addr} {t e : TypeId} (hu : Try.prog.underlying t = some (.slice e)) (h : Cell.okWide Try.prog W .any base t (.slice ao n c)) : ∀ b o, ao = some ⟨b, o, none⟩ → b < W.heap.size := by
  intro b o he
  subst he
  simp only [Cell.okWide, Cell.ok, hu] at h
  exact has_lt h.2.2
theorem types35 : Try.prog.cellTypes Try.prog.depth 35 = some [3, 9, 3, 3, 3, 3, 3, 3, 3, 3, 3, 3, 3, 3, 9, 3, 3, 32, 3, 33] := by kernel_rfl
set_option maxRecDepth 100000 in
theorem msg_lt {W : World} {base : Nat} {m : Msg} {ao : Option Addr} {cv : Nat} (h : Value.okWide Try.prog W .any base 35 (.agg (msgCells m (.slice ao m.views.length cv)))) : ∀ b o, ao = some ⟨b, o, none⟩ → b < W.heap.size := by
  simp only [Value.okWide, Try.underlying35] at h
  obtain ⟨cs, e, _, ts, hts, _, hr⟩ := h
  cases e
  rw [types35] at hts
  cases hts
  obtain ⟨u, hu, hc⟩ := hr 19 (.slice ao m.views.length cv) rfl
  cases hu
  exact slice_lt Try.underlying33 hc
set_option maxRecDepth 100000 in
theorem bytes_lt {W : World} {base n c : Nat} {ao : Option Addr} (h : Value.okWide Try.prog W .any base 22 (.slice ao n c)) : ∀ b o, ao = some ⟨b, o, none⟩ → b < W.heap.size := by
  simp only [Value.okWide, Try.underlying22] at h
  exact slice_lt Try.underlying22 h
end Go.Proofs.Ytfgnlfemckdfnaa
namespace Go.Proofs.Ytfgnlfemckdfnaa.wireCut
open Go.ChangeShapes Go.WideShapes Go.ChangeAt Go.RowKit Go.WideMaps Go.WideElems
set_option maxRecDepth 100000 in
set_option maxHeartbeats 1600000 in
theorem contract (H : Type) (enc : TypeId × Value → H) (W : World) (base : Nat) (args : Array Value) (ds gs : List (DataW H)) (before : List MemPlace)
    (hval : ∀ (j : Nat) t v, Try.f4.params[j]? = some t → args[j]? = some v → Value.okWide Try.prog W .any base t v)
    (hW : DataW.Whole enc Try.prog Try.f4.params.toList Rows.wireCutSpec.vars false W args.toList ds gs before)
    (hsz : (DataW.weightsEach Try.prog (Try.f4.params.toList ++ Rows.wireCutSpec.plain.varTypes Try.prog) (ds ++ gs)).all (· ≤ reachBytes) = true) :
    Calls Try.prog 4 args W fun e W' => ∃ v, e = .returned v ∧ Rows.wireCutSpec.post enc Try.prog Try.f4 false true false false W args v W' := by
  have hW' := hW
  obtain ⟨p, q, hA0, hV, rfl, hfz, hnd⟩ := hW
  have hA : DataW.TrodAll enc Try.prog W 0 (fun _ => true) true Try.f4.params.toList args.toList ds p := hA0
  rw [Try.params4] at hA hval
  obtain ⟨v0, vs0, d0, ds0, p0, q0, hargs, rfl, rfl, h0, r0⟩ := trodAll_cons hA
  obtain ⟨v1, vs1, d1, ds1, p1, q1, rfl, rfl, rfl, h1, r1⟩ := trodAll_cons r0
  obtain ⟨v2, vs2, d2, ds2, p2, q2, rfl, rfl, rfl, h2, r2⟩ := trodAll_cons r1
  obtain ⟨v3, vs3, d3, ds3, p3, q3, rfl, rfl, rfl, h3, r3⟩ := trodAll_cons r2
  obtain ⟨v4, vs4, d4, ds4, p4, q4, rfl, rfl, rfl, h4, r4⟩ := trodAll_cons r3
  obtain ⟨rfl, rfl, rfl⟩ := trodAll_nil r4
  obtain rfl : args = #[v0, v1, v2, v3, v4] := by cases args; simp_all
  obtain ⟨rfl, rfl⟩ := trodVars_none hV
  clear hA0 r0 r1 r2 r3 r4 hA
  have hlt0 : ∀ x ∈ p0, x.block < W.heap.size := fun x hx => hW'.lt x (by simp [hx])
  have hlt2 : ∀ x ∈ p2, x.block < W.heap.size := fun x hx => hW'.lt x (by simp [hx])
  have hw0 : ∀ n ∈ d0.weights Try.prog 35, n ≤ reachBytes := fun n hn => by
    have := List.all_eq_true.1 hsz n (DataW.weights_mem_each (j := 0) (t := 35) (d := d0) (by rw [Try.params4]; rfl) rfl n hn)
    simpa using this
  obtain ⟨m, ao, cv, rfl, hvf, hl, hol, ha, hb, hnm⟩ := open_msg (hval 0 35 v0 rfl rfl) h0 hw0
  have hsb := msg_lt (hval 0 35 _ rfl rfl)
  obtain ⟨cut, rfl, rfl, rfl, w1⟩ := open_int Try.underlying3 (hval 1 3 v1 rfl rfl) h1
  obtain ⟨bo, nm, cm, ys, rfl, hyn, hycap, _, hynil, hyf, hys⟩ := open_bytes (hval 2 22 v2 rfl rfl) h2
  have hym := short_bytes hsz (j := 2) (d := d2) (by rw [Try.params4]; rfl) rfl hycap hys
  have hyb := bytes_lt (hval 2 22 _ rfl rfl)
  obtain ⟨at', rfl, rfl, rfl, w3⟩ := open_int Try.underlying3 (hval 3 3 v3 rfl rfl) h3
  obtain ⟨to, rfl, rfl, rfl, w4⟩ := open_int Try.underlying5 (hval 4 5 v4 rfl rfl) h4
  have k1 := bounds_i64 w1
  have k3 := bounds_i64 w3
  have k4 := bounds_u8 w4
  have hto : Value.int .u8 to = .int .u8 ((UInt8.ofNat to.toNat).toNat : Int) := by symm; apply val_u8; simp; omega
  have hcl := cut_law m ao cv W cut at' bo nm cm ys (UInt8.ofNat to.toNat) (by omega) (by omega) hvf hsb (fun x hx => by have := hnm x hx; omega) ha.1 ha.2 hb.1 hb.2 k1.1 (by omega) k3.1 (by omega) hyn hynil hyf hyb hym
  rw [← hto] at hcl
  refine hcl.mono fun e W' ⟨he, hbl⟩ => ?_
  subst he
  exact ⟨_, rfl, _, _, _, [], _, [], hW', trodAll_cons_mk (shut_bool Try.underlying4 _) trodAll_mk0, trodAll_cons_mk (Below.trod laidOut (by kernel_rfl) (of_decide_eq_true (by kernel_rfl)) h0 hbl hlt0) (trodAll_cons_mk (shut_int Try.underlying3 w1) (trodAll_cons_mk (shut_bytes h2 hbl hlt2) (trodAll_cons_mk (shut_int Try.underlying3 w3) (trodAll_cons_mk (shut_int Try.underlying5 w4) trodAll_mk0)))), rfl, hbl.frame _, fun h => by cases h⟩

set_option maxRecDepth 100000 in
theorem lifted (os : Os) (started : os.Started) (H : Type) (enc : TypeId × Value → H) :
    ReturnsInHanded {} Try.checked os 4 .any (Rows.wireCutSpec.pre6 enc Try.prog Try.f4 Rows.wireCutRow.domain false) (Rows.wireCutSpec.post enc Try.prog Try.f4 false true false false) := by
  refine returnsInHanded_of_change_sized (C := Try.checked) (s := Rows.wireCutSpec) own started (by kernel_rfl) Try.func4
    (ChangeSpec.witness6 (enc := enc) (C := Try.checked) (s := Rows.wireCutSpec) false ⟨#[], #[.agg zeroC, .int .i64 0, .slice none 0 0, .int .i64 0, .int .u8 0], []⟩ 8 (by kernel_rfl) (by kernel_rfl) (by kernel_rfl) (by kernel_rfl)) ?_
  intro W base args ds gs before hval hW _ hsz _
  exact contract H enc W base args ds gs before hval hW hsz

theorem said : Rows.WireCutSaid :=
  OpenClaim.holds_of_wide 4 Try.f4 rfl rfl rfl rfl rfl rfl rfl ⟨rfl, rfl, rfl, rfl, rfl⟩ rfl rfl rfl rfl rfl (by kernel_rfl) Try.func4 (by kernel_rfl)
    (of_decide_eq_true (by kernel_rfl)) (by unfold Func.isWrapper; first | (rw [if_pos (by decide +kernel)]; kernel_rfl) | (rw [if_neg (by decide +kernel)]; exact ⟨rfl, rfl⟩))
    (fun os started H enc _ => lifted os started H enc)
end Go.Proofs.Ytfgnlfemckdfnaa.wireCut

namespace Go.Proofs.Ytfgnlfemckdfnaa
theorem wireCut_said : Rows.WireCutSaid := wireCut.said
end Go.Proofs.Ytfgnlfemckdfnaa
