import Derived.Test.YtehjdkdoalmaeaaMov0
namespace Go.Proofs.Ytehjdkdoalmaeaa
open Go.RowKit Go.PlainAid
set_option linter.unusedVariables false
set_option linter.unusedSimpArgs false

theorem tmod_in (x : Int) (n : Nat) (h : 0 < n) (hn : n ≤ 1024) : ∃ m : Nat, m < n ∧ (wrap64 (x.tmod n + n)).tmod n = (m : Int) := by
  have h1 : x.tmod n < n := Int.tmod_lt_of_pos x (by omega)
  have h2 : -(n : Int) < x.tmod n := by
    rcases Int.le_total 0 x with h0 | h0
    · have := Int.tmod_nonneg (n : Int) h0
      omega
    · have h3 := Int.tmod_lt_of_pos (-x) (b := n) (by omega)
      rw [Int.neg_tmod] at h3
      omega
  have h3 : wrap64 (x.tmod n + n) = x.tmod n + n := by
    unfold wrap64
    omega
  rw [h3]
  have h4 : 0 ≤ x.tmod n + n := by omega
  rw [Int.tmod_eq_emod_of_nonneg h4]
  have h5 := Int.emod_nonneg (x.tmod n + n) (b := n) (by omega)
  have h6 := Int.emod_lt_of_pos (x.tmod n + n) (b := n) (by omega)
  exact ⟨((x.tmod n + n) % n).toNat, by omega, by omega⟩
def pOf (jj q : Nat) : Nat := if q ≤ jj then q else q - 1
def rOf (ii p : Nat) : Nat := if p ≤ ii then p else p + 1
def CMv (W : World) (bx : Nat) (D : Array Value) (lb : Nat) (w2 : World) (wr : World) : Prop := Below W.heap.size W wr ∧ Blk wr bx D 31 ∧ wr.heap[lb]? = w2.heap[lb]?
theorem CMv.up {W : World} {bx : Nat} {D : Array Value} {lb : Nat} {w2 wr w' : World} (h : CMv W bx D lb w2 wr) (hb : Below wr.heap.size wr w') (h1 : bx < wr.heap.size) (h2 : lb < wr.heap.size) : CMv W bx D lb w2 w' :=
  ⟨h.1.trans (hb.mono h.1.size), (hb.block _ h1).trans h.2.1, (hb.block _ h2).trans h.2.2⟩
/-- alike, of a letter that At has told, and one of the list with the same contents. -/
theorem alike_told {W Y : World} {base : Nat} {l2 : LetV} {dd : Value} {c : ArgL} (hd : Y.ownsRow base 5 1 dd l2.bs.length (l2.bs.map B)) (hb : Below W.heap.size W Y) (hco : ArgOk W c) (hk : l2.k = c.k) :
    Calls Try.prog 14 #[.agg (letC l2.f l2.t dd), .agg (letC c.f c.t c.d)] Y fun e w' => e = .returned (.bool true) ∧ Below Y.heap.size Y w' := by
  obtain ⟨lao, lcap, hld, _, _, hlf, _⟩ := own_from hd
  have h1 := alike_any l2.f l2.t c.f c.t lao c.ao l2.bs.length c.bs.length lcap c.cap l2.bs c.bs Y rfl rfl hlf (hco.src.up hb rfl)
  have h2 : alikeB l2.f l2.t l2.bs c.f c.t c.bs = true := by
    simp only [LetV.k, ArgL.k, Prod.mk.injEq] at hk
    simp [alikeB, hk.1, hk.2.1, hk.2.2]
  rw [h2, ← hld] at h1
  exact h1
/-- What is told at q once i has been moved to j: that of i, or of the next one of the rest. -/
theorem told_at {α : Type} (ks : List α) (i j q : Nat) (a : α) (hi : ks[i]? = some a) (hj : j < ks.length) (hq : q < ks.length) (hne : q ≠ j) : ((ks.eraseIdx i).insertIdx j a)[q]? = ks[if pOf j q < i then pOf j q else pOf j q + 1]? := by
  have hil := (List.getElem?_eq_some_iff.1 hi).1
  have e1 := er_len ks i hil
  have key : ((ks.eraseIdx i).insertIdx j a)[q]? = (ks.eraseIdx i)[pOf j q]? := by
    unfold pOf
    by_cases h : q ≤ j
    · rw [if_pos h, ins_low _ _ _ _ (by omega) (by omega)]
    · rw [if_neg h, ins_high _ _ _ _ (by omega) (by omega)]
  rw [key]
  split
  · rename_i h; rw [er_low _ _ _ h]
  · rename_i h; rw [er_high _ _ _ (by omega)]
theorem rp_same (ii q : Nat) : rOf ii (pOf q q) = rOf ii (pOf q (q + 1)) := by
  have h1 : pOf q q = q := by unfold pOf; rw [if_pos (Nat.le_refl _)]
  have h2 : pOf q (q + 1) = q := by unfold pOf; rw [if_neg (by omega)]; rfl
  rw [h1, h2]
theorem rp_next (ii jj q : Nat) (h : q ≠ jj) : (if pOf jj q < ii then pOf jj q else pOf jj q + 1) + 1 = rOf ii (pOf jj (q + 1)) := by
  have h1 : pOf jj (q + 1) = pOf jj q + 1 := by unfold pOf; split <;> split <;> omega
  rw [h1]
  unfold rOf
  split <;> split <;> omega
theorem rp_hit {ii jj q r : Nat} (h : r = rOf ii (pOf jj q)) (he : r = ii) : (if pOf jj q < ii then pOf jj q else pOf jj q + 1) = r + 1 := by
  unfold rOf at h
  split at h <;> split <;> omega
theorem rp_miss {ii jj q r : Nat} (h : r = rOf ii (pOf jj q)) (he : r ≠ ii) : (if pOf jj q < ii then pOf jj q else pOf jj q + 1) = r := by
  unfold rOf at h
  split at h <;> split <;> omega
theorem moved_mem {α : Type} (ks : List α) (i j : Nat) (a : α) (hi : ks[i]? = some a) (hj : j < ks.length) (x : α) (hx : x ∈ (ks.eraseIdx i).insertIdx j a) : x ∈ ks := by
  have hil := (List.getElem?_eq_some_iff.1 hi).1
  have e1 := er_len ks i hil
  rw [insert_split _ _ _ (by omega)] at hx
  rcases List.mem_append.1 hx with h1 | h1
  · exact List.mem_of_mem_eraseIdx (List.mem_of_mem_take h1)
  · rcases List.mem_cons.1 h1 with rfl | h1
    · exact List.mem_of_getElem? hi
    · exact List.mem_of_mem_eraseIdx (List.mem_of_mem_drop h1)

set_option maxRecDepth 100000 in
set_option maxHeartbeats 12800000 in
theorem moves_law (ao : Option Addr) (N cap : Nat) (cs : List ArgL) (i j : Int) (W : World) (hN : cs.length = N) (hmax : N ≤ maxLen) (hok : ∀ c ∈ cs, ArgOk W c) (hat : 0 < N → ∃ b off, ao = some ⟨b, off, none⟩ ∧ ∀ i c, cs[i]? = some c → LetAt W b (off + i * 3) c) (hcap : N ≤ cap) (hnil : ao = none → N = 0 ∧ cap = 0)
    (hi1 : -9223372036854775808 ≤ i) (hi2 : i ≤ 9223372036854775807) (hj1 : -9223372036854775808 ≤ j) (hj2 : j ≤ 9223372036854775807) :
    Calls Try.prog 4 #[.slice ao N cap, .int .i64 i, .int .i64 j] W fun e W' => e = .returned (.bool true) ∧ Below W.heap.size W W' := by
  have hmax' : N ≤ 9223372036854775807 := by simpa [maxLen] using hmax
  by_cases hbig : 1023 < N
  · go_enter Try.func4, Try.ntmps4
    go_wp2
    go_ret
    exact ⟨rfl, Below.refl _ _⟩
  have hnew := new_any 1024 W (by omega) (by omega)
  rw [show ((1024 : Nat) : Int) = 1024 from rfl] at hnew
  have hbw1 : Below W.heap.size W (W.alloc (.cells #[.int .i64 1024, .slice none 0 0] 54)) := by go_grown
  have hBn := new_bag 0 1024 W
  have hblk1 : (W.alloc (.cells #[.int .i64 1024, .slice none 0 0] 54)).heap[W.heap.size]? = some (.cells #[.int .i64 1024, .slice none 0 0] 54 (0, 0)) := heap_alloc_new W _
  have hsz1 : (W.alloc (.cells #[.int .i64 1024, .slice none 0 0] 54)).heap.size = W.heap.size + 1 := World.size_alloc _ _
  obtain ⟨lb, c9, w2, hrun, hlb, hlb2, hb12, hlst⟩ := list_made hN (by omega) hbw1 hat hcap hnil (fun _ _ => trivial) 22
  rw [hsz1] at hrun hlb
  have hB2 : Bag w2.heap.size W.heap.size 1024 (.slice none 0 0) [] w2 := ⟨(hb12.block _ (by rw [hsz1]; omega)).trans hblk1, World.ownsRow_nil _ _ _ _, fun l hl => by cases hl⟩
  have hI0 : MovI W w2.heap.size lb w2.heap[lb]? [] w2 := ⟨⟨_, [], hB2, rfl⟩, hbw1.trans (hb12.mono hbw1.size), rfl, Nat.le_refl _⟩
  have hokc : ∀ c ∈ ((⟨9, 9, none, 0, []⟩ : ArgL) :: cs), ArgOk W c := fun c hc => by
    rcases List.mem_cons.1 hc with rfl | h
    · exact ⟨Nat.zero_le _, fun _ => ⟨rfl, rfl⟩, fun h => by simp at h⟩
    · exact hok c h
  have hcl : ((⟨9, 9, none, 0, []⟩ : ArgL) :: cs).length = 1 + N := by simp [hN]; omega
  generalize ((⟨9, 9, none, 0, []⟩ : ArgL) :: cs) = ca at *
  generalize hn : 1 + N = n at *
  generalize hL2 : w2.heap.size = L2 at *
  generalize hrb : w2.heap[lb]? = rowb at *
  have HL : Hid _ := hlst
  have HI0 : Hid _ := hI0
  clear hBn hblk1 hbw1 hb12 hB2 hlst hI0 hat hok
  go_enter Try.func4, Try.ntmps4
  go_wp2_with (first | (go_at_call 8; refine hnew.mono ?_; rintro e1 w1 ⟨rfl, rfl⟩) | (go_at_call 9; refine (num_any _ _).mono ?_; rintro e2 w3 ⟨rfl, rfl⟩) | (at_builtin; go_must (refine wpList_append_run rfl _ _ rfl _ _ _ rfl rfl hrun ?_)) | fail)
  have hlbL : lb < L2 := hlb2
  have hWL : W.heap.size ≤ L2 := by omega
  have hlne : lb ≠ W.heap.size := by omega
  have hnle : n ≤ 1024 := by omega
  have hpos : 0 < n := by omega
  have HN : Hid _ := hn
  have HL2 : Hid _ := hL2
  have HRB : Hid _ := hrb
  clear hnew hrun hn hL2 hrb
  go_loopw [10] (fun x wr => ∃ k : Nat, k ≤ n ∧ x = .int .i64 k ∧ MovI W L2 lb rowb ((ca.take k).map ArgL.k) wr) (fun x _ => n - (intOf x).toNat)
  case atStart => exact ⟨0, Nat.zero_le _, rfl, by simpa using HI0.out⟩
  case round =>
    obtain ⟨k, hk, rfl, hI⟩ := hrel
    clear HI0
    obtain ⟨v, lv, hBag, hks⟩ := hI.bag
    have hlen : lv.length = k := by
      have := congrArg List.length hks
      rw [List.length_map, List.length_map, List.length_take, hcl] at this
      omega
    by_cases hlt : k < n
    · obtain ⟨c, hc⟩ : ∃ c, ca[k]? = some c := ⟨ca[k]'(by omega), List.getElem?_eq_getElem _⟩
      have hca := (HL.out k c hc).same (hI.row.trans HRB.out.symm)
      have hco := hokc c (List.mem_of_getElem? hc)
      obtain ⟨d0, d1, d2⟩ := hca
      have hown := own_any c.f c.t c.ao c.bs.length c.cap c.bs wr rfl hco.nil (by have := hco.size; omega) (hco.src.up hI.below rfl)
      simp only [ArgL.d] at d2
      go_wp2_with fail
      refine hown.mono ?_
      rintro e3 w3 ⟨d, rfl, hd, hb3⟩
      have hBag3 := hBag.below hb3
      have hI3 := hI.up hlbL hb3
      obtain ⟨dao, dcap, rfl, _, dnil, dfrom, _⟩ := own_from hd
      have hdlt : ∀ b o, dao = some ⟨b, o, none⟩ → b < w3.heap.size := fun b o e => (hd.lt b (by rw [e]; rfl)).2
      have hbs := hco.size
      have hsend := send_room w3 hBag3 (by omega) (by omega) hI3.size c.f c.t dao c.bs.length dcap c.bs rfl dnil (by omega) dfrom hdlt
      clear hown d0 d1 d2
      go_wp2_with fail
      refine hsend.mono ?_
      rintro e4 w4 ⟨rfl, v4, d4, hBag4, hst4, _⟩
      have hI4 := hI3.step hlbL hlne hBag3 hWL hBag4 hst4
      have hks4 : (lv ++ [(⟨c.f, c.t, d4, c.bs⟩ : LetV)]).map LetV.k = (ca.take (k + 1)).map ArgL.k := by
        rw [List.map_append, hks, List.take_add_one, hc, List.map_append]
        rfl
      rw [hks4] at hI4
      clear hsend hst4 hBag hBag3 hBag4 hks hks4 hlen hI hI3 hb3 hd dnil dfrom hdlt
      go_wp2_with (first | (go_at_call 9; refine (num_any _ _).mono ?_; rintro e5 w5 ⟨rfl, rfl⟩) | fail)
      go_roundw
      case rel => exact ⟨k + 1, by omega, by go_num, hI4⟩
      case measure => simp [intOf]; omega
    · obtain rfl : k = n := by omega
      rw [List.take_of_length_le (by omega)] at hks hI
      obtain ⟨ii, hii, hti⟩ := tmod_in i k hpos hnle
      obtain ⟨jj, hjj, htj⟩ := tmod_in j k hpos hnle
      obtain ⟨l, hl⟩ : ∃ l, lv[ii]? = some l := ⟨lv[ii]'(by omega), List.getElem?_eq_getElem _⟩
      have hmove := move_at wr hBag (by omega) ii jj l hl (by omega)
      have hlk : (ca.map ArgL.k)[ii]? = some l.k := by rw [← hks, List.getElem?_map, hl]; rfl
      have hkl : (ca.map ArgL.k).length = k := by rw [List.length_map, hcl]
      have hbnd : ∀ x ∈ ca.map ArgL.k, x.2.2.length ≤ 140737488351232 := fun x hx => by
        obtain ⟨c, hc, rfl⟩ := List.mem_map.1 hx
        exact (hokc c hc).size
      go_wp2_with fail
      clear hti htj hi1 hi2 hj1 hj2
      refine hmove.mono ?_
      rintro e3 wm ⟨rfl, vm, hBm, hstm⟩
      have hIm := hI.step hlbL hlne hBag hWL hBm hstm
      have hksm : ((lv.eraseIdx ii).insertIdx jj l).map LetV.k = ((ca.map ArgL.k).eraseIdx ii).insertIdx jj l.k := by
        rw [map_ins _ _ _ _ (by have := er_len lv ii (by omega); omega), map_er, hks]
      have hlm : ((lv.eraseIdx ii).insertIdx jj l).length = k := by
        have := er_len lv ii (by omega)
        rw [ins_len _ _ _ (by omega)]
        omega
      have hlenm := len_any wm hBm
      rw [hlm] at hlenm
      rw [hksm] at hIm
      have HIm : Hid _ := hIm
      have HB0 : Hid _ := hbnd
      clear hmove hstm hBm hI hBag hks hlen hIm hbnd
      go_wp2_with (first | (go_at_call 9; refine (num_any _ _).mono ?_; rintro e5 w5 ⟨rfl, rfl⟩) | (go_at_call 12; refine hlenm.mono ?_; rintro e6 w6 ⟨rfl, rfl⟩) | fail)
      go_loopw [12, 13, 14, 15] (fun r q _ _ wq => ∃ q' r' : Nat, q' ≤ k ∧ q = .int .i64 q' ∧ r = .int .i64 r' ∧ r' = rOf ii (pOf jj q') ∧ MovI W L2 lb rowb (((ca.map ArgL.k).eraseIdx ii).insertIdx jj l.k) wq) (fun _ q _ _ _ => k - (intOf q).toNat)
      case atStart => exact ⟨0, 0, Nat.zero_le _, rfl, rfl, by simp [rOf, pOf], HIm.out⟩
      case round =>
        obtain ⟨q, r, hq, rfl, rfl, hr, hIq⟩ := hrel
        rename World => wq
        clear HIm hlenm
        obtain ⟨v2, lv2, hB2, hk2⟩ := hIq.bag
        have hel : ((ca.map ArgL.k).eraseIdx ii).length + 1 = k := by rw [er_len _ _ (by omega), hkl]
        have hlen2 : lv2.length = k := by
          have := congrArg List.length hk2
          rw [List.length_map, ins_len _ _ _ (by omega)] at this
          omega
        by_cases hqk : q < k
        · obtain ⟨l2, hl2⟩ : ∃ l2, lv2[q]? = some l2 := ⟨lv2[q]'(by omega), List.getElem?_eq_getElem _⟩
          have hl2k : (((ca.map ArgL.k).eraseIdx ii).insertIdx jj l.k)[q]? = some l2.k := by rw [← hk2, List.getElem?_map, hl2]; rfl
          have hl2s : l2.bs.length ≤ 140737488351232 := HB0.out l2.k (moved_mem _ _ _ _ hlk (by omega) _ (List.mem_of_getElem? hl2k))
          have hatq := at_at wq hB2 (by omega) q l2 hl2 (by omega)
          go_wp2_with fail
          refine hatq.mono ?_
          rintro e6 wd ⟨dd, rfl, hdd, hbd⟩
          have hId := hIq.up hlbL hbd
          have hall : (letC l2.f l2.t dd).all (·.oneCell') = true := by
            obtain ⟨x, y, h, _⟩ := own_slice hdd
            rw [h]
            simp [letC, Value.oneCell']
          have hBz : (wd.alloc (.cells #[.int .i64 0, .int .i64 0, .slice none 0 0] 31)).heap[wd.heap.size]? = some (.cells #[.int .i64 0, .int .i64 0, .slice none 0 0] 31 (0, 0)) := heap_alloc_new wd _
          clear hatq hbd hB2 hk2 hIq hlen2 hl2
          by_cases hqj : q = jj
          · subst hqj
            rw [ins_at _ _ _ (by omega)] at hl2k
            obtain ⟨c, hc⟩ : ∃ c, ca[ii]? = some c := ⟨ca[ii]'(by omega), List.getElem?_eq_getElem _⟩
            have hkey : l2.k = c.k := by
              rw [List.getElem?_map, hc] at hlk
              exact (Option.some.inj hl2k).symm.trans (Option.some.inj hlk).symm
            have hcj := HL.out ii c hc
            have hco := hokc c (List.mem_of_getElem? hc)
            have hpv : ii < k := hii
            have HK2 : Hid _ := hl2k
            have HR : Hid _ := hr
            clear hl2k hr
            go_wp2_with (first | (refine wpList_store_row rfl 31 (.tmp 14) (.tmp 89) rfl wd.heap.size (letC l2.f l2.t dd) rfl rfl 31 _ hBz (by kernel_rfl) rfl hall ?_) | (go_at_call 9; refine (num_any _ _).mono ?_; rintro e5 w5 ⟨rfl, rfl⟩) | fail)
            rename_i K hK
            try rw [show ∀ a : Act, a.put none undef = a from fun _ => rfl]
            refine wp_region_mix (CMv W wd.heap.size (letC l2.f l2.t dd) lb w2) (fun i => i == 5 || i == 7) 7 (by kernel_rfl) rfl (by kernel_rfl) (by kernel_rfl) (by kernel_rfl) ?_
            have hbY : Below wd.heap.size wd ({ ((wd.alloc (.cells #[.int .i64 0, .int .i64 0, .slice none 0 0] 31)).setRow wd.heap.size (letC l2.f l2.t dd)) with drawn := ((wd.alloc (.cells #[.int .i64 0, .int .i64 0, .slice none 0 0] 31)).setRow wd.heap.size (letC l2.f l2.t dd)).drawn + 1 } : World) := by
              have h1 : Below wd.heap.size wd ((wd.alloc (.cells #[.int .i64 0, .int .i64 0, .slice none 0 0] 31)).setRow wd.heap.size (letC l2.f l2.t dd)) := below_setRow' ((Below.refl _ _).alloc (Nat.le_refl _) _) (Nat.le_refl _)
              exact ⟨h1.os, h1.tape, h1.output, h1.size, h1.block⟩
            have hBxY : Blk ({ ((wd.alloc (.cells #[.int .i64 0, .int .i64 0, .slice none 0 0] 31)).setRow wd.heap.size (letC l2.f l2.t dd)) with drawn := ((wd.alloc (.cells #[.int .i64 0, .int .i64 0, .slice none 0 0] 31)).setRow wd.heap.size (letC l2.f l2.t dd)).drawn + 1 } : World) wd.heap.size (letC l2.f l2.t dd) 31 := setRow_heap _ _ _ _ 31 _ hBz
            generalize ({ ((wd.alloc (.cells #[.int .i64 0, .int .i64 0, .slice none 0 0] 31)).setRow wd.heap.size (letC l2.f l2.t dd)) with drawn := ((wd.alloc (.cells #[.int .i64 0, .int .i64 0, .slice none 0 0] 31)).setRow wd.heap.size (letC l2.f l2.t dd)).drawn + 1 } : World) = Y at *
            have hIY := hId.up hlbL hbY
            have hddY : Y.ownsRow wq.heap.size 5 1 dd l2.bs.length (l2.bs.map B) := ownsRow_same hdd fun g hg => hbY.block g (hdd.lt g hg).2
            have hC : CMv W wd.heap.size (letC l2.f l2.t dd) lb w2 Y := ⟨hIY.below, hBxY, hIY.row.trans HRB.out.symm⟩
            have hal := alike_told hddY hIY.below hco hkey
            have hlY : lb < Y.heap.size := by have := hIY.size; omega
            clear hdd hId hBz hbY hddY
            generalize wd.heap.size = bx at *
            have hbxY : bx < Y.heap.size := hBxY.lt
            refine withFrP (N := 147) rfl ?_
            intro f0 F0 hff
            have hs14 : f0 14 = Value.pointer (some ⟨bx, 0, none⟩) := hff 14
            have hs9 : f0 9 = Value.slice (some ⟨lb, 0, none⟩) k c9 := hff 9
            have hs1 : f0 1 = Value.int .i64 (ii : Nat) := hff 1
            clear hff
            refine lyp F0 rfl hC rfl (by omega) (wanted_none rfl) (v := Value.agg (letC l2.f l2.t dd)) (fun wr hwr => by simp only [execOp, (F0.eval 14 (by omega)).trans (show _ = Value.pointer (some ⟨bx, 0, none⟩) from by simp [upd, hs14, hs9, hs1]), Instr.loadAt, Instr.sureAddr, Sem.run_bind, Sem.run_pure, Result.andThen_ok, run_loadVar_row (P := Try.prog) wr bx 31 31 (letC l2.f l2.t dd) (0, 0) _ hwr.2.1 Try.underlying31 rfl (by kernel_rfl)]) fun F1 => ?_
            refine lyp F1 rfl hC rfl (by omega) (wanted_none rfl) (v := Value.slice (some ⟨lb, 0, none⟩) k c9) (fun wr hwr => by simp only [execOp, (F1.eval 9 (by omega)).trans (show _ = Value.slice (some ⟨lb, 0, none⟩) k c9 from by simp [upd, hs14, hs9, hs1])]; first | rfl | simp [go_sem]) fun F2 => ?_
            refine lyp F2 rfl hC rfl (by omega) (wanted_none rfl) (v := Value.int .i64 (ii : Nat)) (fun wr hwr => by simp only [execOp, (F2.eval 1 (by omega)).trans (show _ = Value.int .i64 (ii : Nat) from by simp [upd, hs14, hs9, hs1])]; first | rfl | simp [go_sem]) fun F3 => ?_
            refine lyp F3 rfl hC rfl (by omega) (wanted_none rfl) (v := Value.pointer (some ⟨lb, ii * 3, none⟩)) (fun wr hwr => by simp only [execOp, (F3.eval 98 (by omega)).trans (show _ = Value.slice (some ⟨lb, 0, none⟩) k c9 from by simp [upd, hs14, hs9, hs1]), (F3.eval 99 (by omega)).trans (show _ = Value.int .i64 (ii : Nat) from by simp [upd, hs14, hs9, hs1])]; simp [go_sem, hpv]) fun F4 => ?_
            refine lyp F4 rfl hC rfl (by omega) (wanted_none rfl) (v := Value.agg (letC c.f c.t c.d)) (fun wr hwr => by have hq := hcj.same hwr.2.2; simp only [execOp, (F4.eval 100 (by omega)).trans (show _ = Value.pointer (some ⟨lb, ii * 3, none⟩) from by simp [upd, hs14, hs9, hs1])]; simp [go_sem, hq.c0, hq.c1, hq.c2, letC]) fun F5 => ?_
            refine lcp F5 rfl hC rfl (by omega) (wanted_none rfl) (g := 14) (args := #[.agg (letC l2.f l2.t dd), .agg (letC c.f c.t c.d)]) (by simp only [execOp, resolve, invoke, List.map_toArray, List.map_cons, List.map_nil, (F5.eval 97 (by omega)).trans (show _ = Value.agg (letC l2.f l2.t dd) from by simp [upd, hs14, hs9, hs1]), (F5.eval 101 (by omega)).trans (show _ = Value.agg (letC c.f c.t c.d) from by simp [upd, hs14, hs9, hs1])]; simp [go_sem, Act.eval]) hal ?_
            rintro e8 Y2 ⟨rfl, hb8⟩
            refine ⟨_, rfl, fun F6 => ?_⟩
            have hC2 : CMv W bx (letC l2.f l2.t dd) lb w2 Y2 := hC.up hb8 hbxY hlY
            refine lyp F6 rfl hC2 rfl (by omega) (wanted_none rfl) (v := Value.bool false) (fun wr hwr => by simp only [execOp, (F6.eval 102 (by omega)).trans (show _ = Value.bool true from by simp [upd, hs14, hs9, hs1])]; simp [go_sem, Act.eval]) fun F7 => ?_
            refine ⟨fun _ => hC2, ?_⟩
            clear F0 F1 F2 F3 F4 F5 F6 F7 hs14 hs9 hs1
            have hI2 := hIY.up hlbL hb8
            clear hC hC2 hal hb8 hIY hBxY
            show K _ _
            apply hK
            simp only [Act.put, List.setIfInBounds_toArray, List.set_cons_succ, List.set_cons_zero]
            go_wp2
            go_roundw
            case rel => exact ⟨q + 1, r, by omega, by go_num, rfl, by rw [HR.out]; exact rp_same ii q, hI2⟩
            case measure => simp [intOf]; omega
          · have hqj' : ¬ ((q : Int) = (jj : Int)) := by omega
            rw [told_at _ _ _ _ _ hlk (by omega) (by omega) hqj] at hl2k
            by_cases hri : r = ii
            · subst hri
              obtain ⟨o, ho⟩ : ∃ o, o = r + 1 := ⟨_, rfl⟩
              have hor := (rp_hit hr rfl).trans ho.symm
              rw [hor] at hl2k
              rw [List.getElem?_map] at hl2k
              obtain ⟨c, hc, hkey0⟩ := Option.map_eq_some_iff.1 hl2k
              have hkey : l2.k = c.k := hkey0.symm
              have hcj := HL.out _ c hc
              have hco := hokc c (List.mem_of_getElem? hc)
              have hpv : o < k := by have := (List.getElem?_eq_some_iff.1 hc).1; omega
              have hnx := rp_next r jj q hqj
              rw [hor] at hnx
              have HR : Hid _ := hnx
              have HO : Hid _ := ho
              clear ho
              clear hl2k hr hor hnx hkey0 hc
              go_wp2_with (first | (refine wpList_store_row rfl 31 (.tmp 14) (.tmp 89) rfl wd.heap.size (letC l2.f l2.t dd) rfl rfl 31 _ hBz (by kernel_rfl) rfl hall ?_) | (go_at_call 9; refine (num_any _ _).mono ?_; rintro e5 w5 ⟨rfl, rfl⟩) | fail)
              rename_i K hK
              try rw [show ∀ a : Act, a.put none undef = a from fun _ => rfl]
              refine wp_region_mix (CMv W wd.heap.size (letC l2.f l2.t dd) lb w2) (fun i => i == 5 || i == 7) 7 (by kernel_rfl) rfl (by kernel_rfl) (by kernel_rfl) (by kernel_rfl) ?_
              have hbY : Below wd.heap.size wd ({ ((wd.alloc (.cells #[.int .i64 0, .int .i64 0, .slice none 0 0] 31)).setRow wd.heap.size (letC l2.f l2.t dd)) with drawn := ((wd.alloc (.cells #[.int .i64 0, .int .i64 0, .slice none 0 0] 31)).setRow wd.heap.size (letC l2.f l2.t dd)).drawn + 1 } : World) := by
                have h1 : Below wd.heap.size wd ((wd.alloc (.cells #[.int .i64 0, .int .i64 0, .slice none 0 0] 31)).setRow wd.heap.size (letC l2.f l2.t dd)) := below_setRow' ((Below.refl _ _).alloc (Nat.le_refl _) _) (Nat.le_refl _)
                exact ⟨h1.os, h1.tape, h1.output, h1.size, h1.block⟩
              have hBxY : Blk ({ ((wd.alloc (.cells #[.int .i64 0, .int .i64 0, .slice none 0 0] 31)).setRow wd.heap.size (letC l2.f l2.t dd)) with drawn := ((wd.alloc (.cells #[.int .i64 0, .int .i64 0, .slice none 0 0] 31)).setRow wd.heap.size (letC l2.f l2.t dd)).drawn + 1 } : World) wd.heap.size (letC l2.f l2.t dd) 31 := setRow_heap _ _ _ _ 31 _ hBz
              generalize ({ ((wd.alloc (.cells #[.int .i64 0, .int .i64 0, .slice none 0 0] 31)).setRow wd.heap.size (letC l2.f l2.t dd)) with drawn := ((wd.alloc (.cells #[.int .i64 0, .int .i64 0, .slice none 0 0] 31)).setRow wd.heap.size (letC l2.f l2.t dd)).drawn + 1 } : World) = Y at *
              have hIY := hId.up hlbL hbY
              have hddY : Y.ownsRow wq.heap.size 5 1 dd l2.bs.length (l2.bs.map B) := ownsRow_same hdd fun g hg => hbY.block g (hdd.lt g hg).2
              have hC : CMv W wd.heap.size (letC l2.f l2.t dd) lb w2 Y := ⟨hIY.below, hBxY, hIY.row.trans HRB.out.symm⟩
              have hal := alike_told hddY hIY.below hco hkey
              have hlY : lb < Y.heap.size := by have := hIY.size; omega
              clear hdd hId hBz hbY hddY
              generalize wd.heap.size = bx at *
              have hbxY : bx < Y.heap.size := hBxY.lt
              refine withFrP (N := 147) rfl ?_
              intro f0 F0 hff
              have hs14 : f0 14 = Value.pointer (some ⟨bx, 0, none⟩) := hff 14
              have hs9 : f0 9 = Value.slice (some ⟨lb, 0, none⟩) k c9 := hff 9
              have hs12 : f0 12 = Value.int .i64 (o : Nat) := (hff 12).trans (show Value.int .i64 ((r : Int) + 1) = Value.int .i64 (o : Nat) from val_i64 (by have := HO.out; omega))
              clear hff
              refine lyp F0 rfl hC rfl (by omega) (wanted_none rfl) (v := Value.agg (letC l2.f l2.t dd)) (fun wr hwr => by simp only [execOp, (F0.eval 14 (by omega)).trans (show _ = Value.pointer (some ⟨bx, 0, none⟩) from by simp [upd, hs14, hs9, hs12]), Instr.loadAt, Instr.sureAddr, Sem.run_bind, Sem.run_pure, Result.andThen_ok, run_loadVar_row (P := Try.prog) wr bx 31 31 (letC l2.f l2.t dd) (0, 0) _ hwr.2.1 Try.underlying31 rfl (by kernel_rfl)]) fun F1 => ?_
              refine lyp F1 rfl hC rfl (by omega) (wanted_none rfl) (v := Value.slice (some ⟨lb, 0, none⟩) k c9) (fun wr hwr => by simp only [execOp, (F1.eval 9 (by omega)).trans (show _ = Value.slice (some ⟨lb, 0, none⟩) k c9 from by simp [upd, hs14, hs9, hs12])]; first | rfl | simp [go_sem]) fun F2 => ?_
              refine lyp F2 rfl hC rfl (by omega) (wanted_none rfl) (v := Value.int .i64 (o : Nat)) (fun wr hwr => by simp only [execOp, (F2.eval 12 (by omega)).trans (show _ = Value.int .i64 (o : Nat) from by simp [upd, hs14, hs9, hs12])]; first | rfl | simp [go_sem]) fun F3 => ?_
              refine lyp F3 rfl hC rfl (by omega) (wanted_none rfl) (v := Value.pointer (some ⟨lb, o * 3, none⟩)) (fun wr hwr => by simp only [execOp, (F3.eval 110 (by omega)).trans (show _ = Value.slice (some ⟨lb, 0, none⟩) k c9 from by simp [upd, hs14, hs9, hs12]), (F3.eval 111 (by omega)).trans (show _ = Value.int .i64 (o : Nat) from by simp [upd, hs14, hs9, hs12])]; simp [go_sem, hpv]) fun F4 => ?_
              refine lyp F4 rfl hC rfl (by omega) (wanted_none rfl) (v := Value.agg (letC c.f c.t c.d)) (fun wr hwr => by have hq := hcj.same hwr.2.2; simp only [execOp, (F4.eval 112 (by omega)).trans (show _ = Value.pointer (some ⟨lb, o * 3, none⟩) from by simp [upd, hs14, hs9, hs12])]; simp [go_sem, hq.c0, hq.c1, hq.c2, letC]) fun F5 => ?_
              refine lcp F5 rfl hC rfl (by omega) (wanted_none rfl) (g := 14) (args := #[.agg (letC l2.f l2.t dd), .agg (letC c.f c.t c.d)]) (by simp only [execOp, resolve, invoke, List.map_toArray, List.map_cons, List.map_nil, (F5.eval 109 (by omega)).trans (show _ = Value.agg (letC l2.f l2.t dd) from by simp [upd, hs14, hs9, hs12]), (F5.eval 113 (by omega)).trans (show _ = Value.agg (letC c.f c.t c.d) from by simp [upd, hs14, hs9, hs12])]; simp [go_sem, Act.eval]) hal ?_
              rintro e8 Y2 ⟨rfl, hb8⟩
              refine ⟨_, rfl, fun F6 => ?_⟩
              have hC2 : CMv W bx (letC l2.f l2.t dd) lb w2 Y2 := hC.up hb8 hbxY hlY
              refine lyp F6 rfl hC2 rfl (by omega) (wanted_none rfl) (v := Value.bool false) (fun wr hwr => by simp only [execOp, (F6.eval 114 (by omega)).trans (show _ = Value.bool true from by simp [upd, hs14, hs9, hs12])]; simp [go_sem, Act.eval]) fun F7 => ?_
              refine ⟨fun _ => hC2, ?_⟩
              clear F0 F1 F2 F3 F4 F5 F6 F7 hs14 hs9 hs12
              have hI2 := hIY.up hlbL hb8
              clear hC hC2 hal hb8 hIY hBxY
              show K _ _
              apply hK
              simp only [Act.put, List.setIfInBounds_toArray, List.set_cons_succ, List.set_cons_zero]
              go_wp2
              go_roundw
              case rel => exact ⟨q + 1, o + 1, by omega, by go_num, (by have := HO.out; exact val_i64 (by omega)), HR.out, hI2⟩
              case measure => simp [intOf]; omega
            · have hri2 : ¬ ((r : Int) = (ii : Int)) := by omega
              have hor := rp_miss hr hri
              rw [hor] at hl2k
              rw [List.getElem?_map] at hl2k
              obtain ⟨c, hc, hkey0⟩ := Option.map_eq_some_iff.1 hl2k
              have hkey : l2.k = c.k := hkey0.symm
              have hcj := HL.out _ c hc
              have hco := hokc c (List.mem_of_getElem? hc)
              have hpv : r < k := by have := (List.getElem?_eq_some_iff.1 hc).1; omega
              have hnx := rp_next ii jj q hqj
              rw [hor] at hnx
              have HR : Hid _ := hnx
              clear hl2k hr hor hnx hkey0 hc
              go_wp2_with (first | (refine wpList_store_row rfl 31 (.tmp 14) (.tmp 89) rfl wd.heap.size (letC l2.f l2.t dd) rfl rfl 31 _ hBz (by kernel_rfl) rfl hall ?_) | (go_at_call 9; refine (num_any _ _).mono ?_; rintro e5 w5 ⟨rfl, rfl⟩) | fail)
              rename_i K hK
              try rw [show ∀ a : Act, a.put none undef = a from fun _ => rfl]
              refine wp_region_mix (CMv W wd.heap.size (letC l2.f l2.t dd) lb w2) (fun i => i == 5 || i == 7) 7 (by kernel_rfl) rfl (by kernel_rfl) (by kernel_rfl) (by kernel_rfl) ?_
              have hbY : Below wd.heap.size wd ({ ((wd.alloc (.cells #[.int .i64 0, .int .i64 0, .slice none 0 0] 31)).setRow wd.heap.size (letC l2.f l2.t dd)) with drawn := ((wd.alloc (.cells #[.int .i64 0, .int .i64 0, .slice none 0 0] 31)).setRow wd.heap.size (letC l2.f l2.t dd)).drawn + 1 } : World) := by
                have h1 : Below wd.heap.size wd ((wd.alloc (.cells #[.int .i64 0, .int .i64 0, .slice none 0 0] 31)).setRow wd.heap.size (letC l2.f l2.t dd)) := below_setRow' ((Below.refl _ _).alloc (Nat.le_refl _) _) (Nat.le_refl _)
                exact ⟨h1.os, h1.tape, h1.output, h1.size, h1.block⟩
              have hBxY : Blk ({ ((wd.alloc (.cells #[.int .i64 0, .int .i64 0, .slice none 0 0] 31)).setRow wd.heap.size (letC l2.f l2.t dd)) with drawn := ((wd.alloc (.cells #[.int .i64 0, .int .i64 0, .slice none 0 0] 31)).setRow wd.heap.size (letC l2.f l2.t dd)).drawn + 1 } : World) wd.heap.size (letC l2.f l2.t dd) 31 := setRow_heap _ _ _ _ 31 _ hBz
              generalize ({ ((wd.alloc (.cells #[.int .i64 0, .int .i64 0, .slice none 0 0] 31)).setRow wd.heap.size (letC l2.f l2.t dd)) with drawn := ((wd.alloc (.cells #[.int .i64 0, .int .i64 0, .slice none 0 0] 31)).setRow wd.heap.size (letC l2.f l2.t dd)).drawn + 1 } : World) = Y at *
              have hIY := hId.up hlbL hbY
              have hddY : Y.ownsRow wq.heap.size 5 1 dd l2.bs.length (l2.bs.map B) := ownsRow_same hdd fun g hg => hbY.block g (hdd.lt g hg).2
              have hC : CMv W wd.heap.size (letC l2.f l2.t dd) lb w2 Y := ⟨hIY.below, hBxY, hIY.row.trans HRB.out.symm⟩
              have hal := alike_told hddY hIY.below hco hkey
              have hlY : lb < Y.heap.size := by have := hIY.size; omega
              clear hdd hId hBz hbY hddY
              generalize wd.heap.size = bx at *
              have hbxY : bx < Y.heap.size := hBxY.lt
              refine withFrP (N := 147) rfl ?_
              intro f0 F0 hff
              have hs14 : f0 14 = Value.pointer (some ⟨bx, 0, none⟩) := hff 14
              have hs9 : f0 9 = Value.slice (some ⟨lb, 0, none⟩) k c9 := hff 9
              have hs12 : f0 12 = Value.int .i64 (r : Nat) := hff 12
              clear hff
              refine lyp F0 rfl hC rfl (by omega) (wanted_none rfl) (v := Value.agg (letC l2.f l2.t dd)) (fun wr hwr => by simp only [execOp, (F0.eval 14 (by omega)).trans (show _ = Value.pointer (some ⟨bx, 0, none⟩) from by simp [upd, hs14, hs9, hs12]), Instr.loadAt, Instr.sureAddr, Sem.run_bind, Sem.run_pure, Result.andThen_ok, run_loadVar_row (P := Try.prog) wr bx 31 31 (letC l2.f l2.t dd) (0, 0) _ hwr.2.1 Try.underlying31 rfl (by kernel_rfl)]) fun F1 => ?_
              refine lyp F1 rfl hC rfl (by omega) (wanted_none rfl) (v := Value.slice (some ⟨lb, 0, none⟩) k c9) (fun wr hwr => by simp only [execOp, (F1.eval 9 (by omega)).trans (show _ = Value.slice (some ⟨lb, 0, none⟩) k c9 from by simp [upd, hs14, hs9, hs12])]; first | rfl | simp [go_sem]) fun F2 => ?_
              refine lyp F2 rfl hC rfl (by omega) (wanted_none rfl) (v := Value.int .i64 (r : Nat)) (fun wr hwr => by simp only [execOp, (F2.eval 12 (by omega)).trans (show _ = Value.int .i64 (r : Nat) from by simp [upd, hs14, hs9, hs12])]; first | rfl | simp [go_sem]) fun F3 => ?_
              refine lyp F3 rfl hC rfl (by omega) (wanted_none rfl) (v := Value.pointer (some ⟨lb, r * 3, none⟩)) (fun wr hwr => by simp only [execOp, (F3.eval 110 (by omega)).trans (show _ = Value.slice (some ⟨lb, 0, none⟩) k c9 from by simp [upd, hs14, hs9, hs12]), (F3.eval 111 (by omega)).trans (show _ = Value.int .i64 (r : Nat) from by simp [upd, hs14, hs9, hs12])]; simp [go_sem, hpv]) fun F4 => ?_
              refine lyp F4 rfl hC rfl (by omega) (wanted_none rfl) (v := Value.agg (letC c.f c.t c.d)) (fun wr hwr => by have hq := hcj.same hwr.2.2; simp only [execOp, (F4.eval 112 (by omega)).trans (show _ = Value.pointer (some ⟨lb, r * 3, none⟩) from by simp [upd, hs14, hs9, hs12])]; simp [go_sem, hq.c0, hq.c1, hq.c2, letC]) fun F5 => ?_
              refine lcp F5 rfl hC rfl (by omega) (wanted_none rfl) (g := 14) (args := #[.agg (letC l2.f l2.t dd), .agg (letC c.f c.t c.d)]) (by simp only [execOp, resolve, invoke, List.map_toArray, List.map_cons, List.map_nil, (F5.eval 109 (by omega)).trans (show _ = Value.agg (letC l2.f l2.t dd) from by simp [upd, hs14, hs9, hs12]), (F5.eval 113 (by omega)).trans (show _ = Value.agg (letC c.f c.t c.d) from by simp [upd, hs14, hs9, hs12])]; simp [go_sem, Act.eval]) hal ?_
              rintro e8 Y2 ⟨rfl, hb8⟩
              refine ⟨_, rfl, fun F6 => ?_⟩
              have hC2 : CMv W bx (letC l2.f l2.t dd) lb w2 Y2 := hC.up hb8 hbxY hlY
              refine lyp F6 rfl hC2 rfl (by omega) (wanted_none rfl) (v := Value.bool false) (fun wr hwr => by simp only [execOp, (F6.eval 114 (by omega)).trans (show _ = Value.bool true from by simp [upd, hs14, hs9, hs12])]; simp [go_sem, Act.eval]) fun F7 => ?_
              refine ⟨fun _ => hC2, ?_⟩
              clear F0 F1 F2 F3 F4 F5 F6 F7 hs14 hs9 hs12
              have hI2 := hIY.up hlbL hb8
              clear hC hC2 hal hb8 hIY hBxY
              show K _ _
              apply hK
              simp only [Act.put, List.setIfInBounds_toArray, List.set_cons_succ, List.set_cons_zero]
              go_wp2
              go_roundw
              case rel => exact ⟨q + 1, r + 1, by omega, by go_num, by go_num, HR.out, hI2⟩
              case measure => simp [intOf]; omega
        · obtain rfl : k = q := by omega
          obtain ⟨l3, hl3⟩ : ∃ l3, lv2[jj]? = some l3 := ⟨lv2[jj]'(by omega), List.getElem?_eq_getElem _⟩
          have hl3k : l3.k = l.k := by
            have h1 : (((ca.map ArgL.k).eraseIdx ii).insertIdx jj l.k)[jj]? = some l3.k := by rw [← hk2, List.getElem?_map, hl3]; rfl
            rw [ins_at _ _ _ (by omega)] at h1
            exact (Option.some.inj h1).symm
          have hmove2 := move_at wq hB2 (by omega) jj ii l3 hl3 (by omega)
          go_wp2_with fail
          refine hmove2.mono ?_
          rintro e3 wm2 ⟨rfl, vm2, hBm2, hstm2⟩
          have hIm2 := hIq.step hlbL hlne hB2 hWL hBm2 hstm2
          have hks3 : ((lv2.eraseIdx jj).insertIdx ii l3).map LetV.k = ca.map ArgL.k := by
            rw [map_ins _ _ _ _ (by have := er_len lv2 jj (by omega); omega), map_er, hk2, hl3k]
            exact moved_back _ _ _ _ hlk (by omega)
          rw [hks3] at hIm2
          have HIm2 : Hid _ := hIm2
          clear hmove2 hBm2 hstm2 hIm2 hks3 hIq hB2 hk2 hlen2 hr hl3 hl3k hel
          go_wp2_with (first | (go_at_call 9; refine (num_any _ _).mono ?_; rintro e5 w5 ⟨rfl, rfl⟩) | fail)
          go_loopw [16, 17, 18] (fun q _ _ wq => ∃ q' : Nat, q' ≤ k ∧ q = .int .i64 q' ∧ MovI W L2 lb rowb (ca.map ArgL.k) wq) (fun q _ _ _ => k - (intOf q).toNat)
          case atStart => exact ⟨0, Nat.zero_le _, rfl, HIm2.out⟩
          case round =>
            obtain ⟨q, hq2, rfl, hIq⟩ := hrel
            rename World => wq
            clear HIm2
            obtain ⟨v2, lv2, hB2, hk2⟩ := hIq.bag
            have hlen2 : lv2.length = k := by
              have := congrArg List.length hk2
              rw [List.length_map] at this
              omega
            by_cases hqk2 : q < k
            · obtain ⟨l2, hl2⟩ : ∃ l2, lv2[q]? = some l2 := ⟨lv2[q]'(by omega), List.getElem?_eq_getElem _⟩
              have hl2k : (ca.map ArgL.k)[q]? = some l2.k := by rw [← hk2, List.getElem?_map, hl2]; rfl
              have hl2s : l2.bs.length ≤ 140737488351232 := HB0.out l2.k (List.mem_of_getElem? hl2k)
              have hatq := at_at wq hB2 (by omega) q l2 hl2 (by omega)
              rw [List.getElem?_map] at hl2k
              obtain ⟨c, hc, hkey0⟩ := Option.map_eq_some_iff.1 hl2k
              have hkey : l2.k = c.k := hkey0.symm
              have hcj := HL.out _ c hc
              have hco := hokc c (List.mem_of_getElem? hc)
              have hpv : q < k := hqk2
              go_wp2_with fail
              refine hatq.mono ?_
              rintro e6 wd ⟨dd, rfl, hdd, hbd⟩
              have hId := hIq.up hlbL hbd
              have hall : (letC l2.f l2.t dd).all (·.oneCell') = true := by
                obtain ⟨x, y, h, _⟩ := own_slice hdd
                rw [h]
                simp [letC, Value.oneCell']
              have hBz : (wd.alloc (.cells #[.int .i64 0, .int .i64 0, .slice none 0 0] 31)).heap[wd.heap.size]? = some (.cells #[.int .i64 0, .int .i64 0, .slice none 0 0] 31 (0, 0)) := heap_alloc_new wd _
              clear hatq hbd hB2 hk2 hIq hlen2 hl2 hl2k hkey0 hc
              go_wp2_with (first | (refine wpList_store_row rfl 31 (.tmp 17) (.tmp 133) rfl wd.heap.size (letC l2.f l2.t dd) rfl rfl 31 _ hBz (by kernel_rfl) rfl hall ?_) | fail)
              rename_i K hK
              try rw [show ∀ a : Act, a.put none undef = a from fun _ => rfl]
              refine wp_region_mix (CMv W wd.heap.size (letC l2.f l2.t dd) lb w2) (fun i => i == 1 || i == 9 || i == 12) 12 (by kernel_rfl) rfl (by kernel_rfl) (by kernel_rfl) (by kernel_rfl) ?_
              have hbY : Below wd.heap.size wd ({ ((wd.alloc (.cells #[.int .i64 0, .int .i64 0, .slice none 0 0] 31)).setRow wd.heap.size (letC l2.f l2.t dd)) with drawn := ((wd.alloc (.cells #[.int .i64 0, .int .i64 0, .slice none 0 0] 31)).setRow wd.heap.size (letC l2.f l2.t dd)).drawn + 1 } : World) := by
                have h1 : Below wd.heap.size wd ((wd.alloc (.cells #[.int .i64 0, .int .i64 0, .slice none 0 0] 31)).setRow wd.heap.size (letC l2.f l2.t dd)) := below_setRow' ((Below.refl _ _).alloc (Nat.le_refl _) _) (Nat.le_refl _)
                exact ⟨h1.os, h1.tape, h1.output, h1.size, h1.block⟩
              have hBxY : Blk ({ ((wd.alloc (.cells #[.int .i64 0, .int .i64 0, .slice none 0 0] 31)).setRow wd.heap.size (letC l2.f l2.t dd)) with drawn := ((wd.alloc (.cells #[.int .i64 0, .int .i64 0, .slice none 0 0] 31)).setRow wd.heap.size (letC l2.f l2.t dd)).drawn + 1 } : World) wd.heap.size (letC l2.f l2.t dd) 31 := setRow_heap _ _ _ _ 31 _ hBz
              generalize ({ ((wd.alloc (.cells #[.int .i64 0, .int .i64 0, .slice none 0 0] 31)).setRow wd.heap.size (letC l2.f l2.t dd)) with drawn := ((wd.alloc (.cells #[.int .i64 0, .int .i64 0, .slice none 0 0] 31)).setRow wd.heap.size (letC l2.f l2.t dd)).drawn + 1 } : World) = Y at *
              have hIY := hId.up hlbL hbY
              have hddY : Y.ownsRow wq.heap.size 5 1 dd l2.bs.length (l2.bs.map B) := ownsRow_same hdd fun g hg => hbY.block g (hdd.lt g hg).2
              have hC : CMv W wd.heap.size (letC l2.f l2.t dd) lb w2 Y := ⟨hIY.below, hBxY, hIY.row.trans HRB.out.symm⟩
              have hal := alike_told hddY hIY.below hco hkey
              have hlY : lb < Y.heap.size := by have := hIY.size; omega
              clear hdd hId hBz hbY hddY
              generalize wd.heap.size = bx at *
              have hbxY : bx < Y.heap.size := hBxY.lt
              refine withFrP (N := 147) rfl ?_
              intro f0 F0 hff
              have hs17 : f0 17 = Value.pointer (some ⟨bx, 0, none⟩) := hff 17
              have hs9 : f0 9 = Value.slice (some ⟨lb, 0, none⟩) k c9 := hff 9
              have hs16 : f0 16 = Value.int .i64 (q : Nat) := hff 16
              have hs18 : f0 18 = Value.int .i64 0 := hff 18
              clear hff
              refine lyp F0 rfl hC rfl (by omega) (wanted_none rfl) (v := Value.int .i64 0) (fun wr hwr => by simp only [execOp, (F0.eval 18 (by omega)).trans (show _ = Value.int .i64 0 from by simp [upd, hs17, hs9, hs16, hs18])]; first | rfl | simp [go_sem]) fun F1 => ?_
              refine lcp F1 rfl hC rfl (by omega) (wanted_none rfl) (g := 9) (args := #[.int .i64 0]) (by simp only [execOp, resolve, invoke, List.map_toArray, List.map_cons, List.map_nil, (F1.eval 135 (by omega)).trans (show _ = Value.int .i64 0 from by simp [upd, hs17, hs9, hs16, hs18])]; simp [go_sem, Act.eval]) (num_any 0 Y) ?_
              rintro e7 Y1 ⟨rfl, rfl⟩
              refine ⟨_, rfl, fun F2 => ?_⟩
              refine lyp F2 rfl hC rfl (by omega) (wanted_none rfl) (v := Value.bool false) (fun wr hwr => by simp only [execOp, (F2.eval 136 (by omega)).trans (show _ = Value.int .i64 0 from by simp [upd, hs17, hs9, hs16, hs18])]; simp [go_sem, Act.eval]) fun F3 => ?_
              refine lyp F3 rfl hC rfl (by omega) (wanted_none rfl) (v := Value.bool false) (fun wr hwr => by simp only [execOp, (F3.eval 137 (by omega)).trans (show _ = Value.bool false from by simp [upd, hs17, hs9, hs16, hs18])]; first | rfl | simp [go_sem]) fun F4 => ?_
              refine lyp F4 rfl hC rfl (by omega) (by rw [wanted_some rfl, F4.yields (i := 3) (d := 138) rfl (by omega) (show _ = Value.bool false from by simp [upd])]; rfl) (v := Value.agg (letC l2.f l2.t dd)) (fun wr hwr => by simp only [execOp, (F4.eval 17 (by omega)).trans (show _ = Value.pointer (some ⟨bx, 0, none⟩) from by simp [upd, hs17, hs9, hs16, hs18]), Instr.loadAt, Instr.sureAddr, Sem.run_bind, Sem.run_pure, Result.andThen_ok, run_loadVar_row (P := Try.prog) wr bx 31 31 (letC l2.f l2.t dd) (0, 0) _ hwr.2.1 Try.underlying31 rfl (by kernel_rfl)]) fun F5 => ?_
              refine lyp F5 rfl hC rfl (by omega) (by rw [wanted_some rfl, F5.yields (i := 3) (d := 138) rfl (by omega) (show _ = Value.bool false from by simp [upd])]; rfl) (v := Value.slice (some ⟨lb, 0, none⟩) k c9) (fun wr hwr => by simp only [execOp, (F5.eval 9 (by omega)).trans (show _ = Value.slice (some ⟨lb, 0, none⟩) k c9 from by simp [upd, hs17, hs9, hs16, hs18])]; first | rfl | simp [go_sem]) fun F6 => ?_
              refine lyp F6 rfl hC rfl (by omega) (by rw [wanted_some rfl, F6.yields (i := 3) (d := 138) rfl (by omega) (show _ = Value.bool false from by simp [upd])]; rfl) (v := Value.int .i64 (q : Nat)) (fun wr hwr => by simp only [execOp, (F6.eval 16 (by omega)).trans (show _ = Value.int .i64 (q : Nat) from by simp [upd, hs17, hs9, hs16, hs18])]; first | rfl | simp [go_sem]) fun F7 => ?_
              refine lyp F7 rfl hC rfl (by omega) (by rw [wanted_some rfl, F7.yields (i := 3) (d := 138) rfl (by omega) (show _ = Value.bool false from by simp [upd])]; rfl) (v := Value.pointer (some ⟨lb, q * 3, none⟩)) (fun wr hwr => by simp only [execOp, (F7.eval 140 (by omega)).trans (show _ = Value.slice (some ⟨lb, 0, none⟩) k c9 from by simp [upd, hs17, hs9, hs16, hs18]), (F7.eval 141 (by omega)).trans (show _ = Value.int .i64 (q : Nat) from by simp [upd, hs17, hs9, hs16, hs18])]; simp [go_sem, hpv]) fun F8 => ?_
              refine lyp F8 rfl hC rfl (by omega) (by rw [wanted_some rfl, F8.yields (i := 3) (d := 138) rfl (by omega) (show _ = Value.bool false from by simp [upd])]; rfl) (v := Value.agg (letC c.f c.t c.d)) (fun wr hwr => by have hq := hcj.same hwr.2.2; simp only [execOp, (F8.eval 142 (by omega)).trans (show _ = Value.pointer (some ⟨lb, q * 3, none⟩) from by simp [upd, hs17, hs9, hs16, hs18])]; simp [go_sem, hq.c0, hq.c1, hq.c2, letC]) fun F9 => ?_
              refine lcp F9 rfl hC rfl (by omega) (by rw [wanted_some rfl, F9.yields (i := 3) (d := 138) rfl (by omega) (show _ = Value.bool false from by simp [upd])]; rfl) (g := 14) (args := #[.agg (letC l2.f l2.t dd), .agg (letC c.f c.t c.d)]) (by simp only [execOp, resolve, invoke, List.map_toArray, List.map_cons, List.map_nil, (F9.eval 139 (by omega)).trans (show _ = Value.agg (letC l2.f l2.t dd) from by simp [upd, hs17, hs9, hs16, hs18]), (F9.eval 143 (by omega)).trans (show _ = Value.agg (letC c.f c.t c.d) from by simp [upd, hs17, hs9, hs16, hs18])]; simp [go_sem, Act.eval]) hal ?_
              rintro e8 Y2 ⟨rfl, hb8⟩
              refine ⟨_, rfl, fun F10 => ?_⟩
              have hC2 : CMv W bx (letC l2.f l2.t dd) lb w2 Y2 := hC.up hb8 hbxY hlY
              refine lyp F10 rfl hC2 rfl (by omega) (by rw [wanted_some rfl, F10.yields (i := 3) (d := 138) rfl (by omega) (show _ = Value.bool false from by simp [upd])]; rfl) (v := Value.bool false) (fun wr hwr => by simp only [execOp, (F10.eval 144 (by omega)).trans (show _ = Value.bool true from by simp [upd, hs17, hs9, hs16, hs18])]; simp [go_sem, Act.eval]) fun F11 => ?_
              refine lyp F11 rfl hC2 rfl (by omega) (wanted_none rfl) (v := Value.bool false) (fun wr hwr => by simp only [execOp, (F11.eval 138 (by omega)).trans (show _ = Value.bool false from by simp [upd, hs17, hs9, hs16, hs18]), (F11.eval 145 (by omega)).trans (show _ = Value.bool false from by simp [upd, hs17, hs9, hs16, hs18])]; simp [go_sem, Act.eval]) fun F12 => ?_
              refine ⟨fun _ => hC2, ?_⟩
              clear F0 F1 F2 F3 F4 F5 F6 F7 F8 F9 F10 F11 F12 hs17 hs9 hs16 hs18
              have hI2 := hIY.up hlbL hb8
              clear hC hC2 hal hb8 hIY hBxY
              show K _ _
              apply hK
              simp only [Act.put, List.setIfInBounds_toArray, List.set_cons_succ, List.set_cons_zero]
              go_wp2
              go_roundw
              case rel => exact ⟨q + 1, by omega, by go_num, hI2⟩
              case measure => simp [intOf]; omega
            · have hbl := hIq.below
              have HBL : Hid _ := hbl
              clear hB2 hk2 hIq hlen2 hbl
              go_wp2
              go_ret
              exact ⟨rfl, HBL.out⟩
end Go.Proofs.Ytehjdkdoalmaeaa
