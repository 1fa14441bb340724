import Derived.Test.YtehjdkdoalmaeaaDel
import Derived.Test.YtehjdkdoalmaeaaAlike
import Derived.Test.YtehjdkdoalmaeaaArgs
namespace Go.Proofs.Ytehjdkdoalmaeaa
open Go.RowKit Go.PlainAid
set_option linter.unusedVariables false
set_option linter.unusedSimpArgs false

def LetV.k (l : LetV) : Int × Int × List UInt8 := (l.f, l.t, l.bs)
def ArgL.k (c : ArgL) : Int × Int × List UInt8 := (c.f, c.t, c.bs)
theorem min_take {cs : List ArgL} {i n : Nat} (hi : i < cs.length) (h : i < n) {c : ArgL} (hc : cs[i]? = some c) : (cs.take (min (i + 1) n)) = cs.take (min i n) ++ [c] := by
  rw [Nat.min_eq_left (by omega), Nat.min_eq_left (by omega), List.take_add_one, hc]
  rfl
theorem min_take' {cs : List ArgL} {i n : Nat} (h : n ≤ i) : (cs.take (min (i + 1) n)) = cs.take (min i n) := by
  rw [Nat.min_eq_right (by omega), Nat.min_eq_right (by omega)]
theorem ord_step {cs : List ArgL} {q j : Nat} {c : ArgL} {l : LetV} {ls : List LetV} (hc : cs[j]? = some c) (hj : j < q) (hq : q ≤ cs.length) (h : (l :: ls).map LetV.k = ((cs.take q).drop j).map ArgL.k) : l.k = c.k ∧ ls.map LetV.k = ((cs.take q).drop (j + 1)).map ArgL.k := by
  have hg : (cs.take q)[j]? = some c := by rw [List.getElem?_take, if_pos hj, hc]
  have hd : (cs.take q).drop j = c :: (cs.take q).drop (j + 1) := by
    have hl := (List.getElem?_eq_some_iff.1 hg).1
    rw [List.drop_eq_getElem_cons hl]
    congr 1
    exact (List.getElem?_eq_some_iff.1 hg).2
  rw [hd] at h
  simp only [List.map_cons, List.cons.injEq] at h
  exact h
def CDel (W : World) (bx : Nat) (D : Array Value) (wr : World) : Prop := Below W.heap.size W wr ∧ Blk wr bx D 31
structure OrdI (W : World) (cs : List ArgL) (n k : Nat) (wr : World) : Prop where
  bag : ∃ v ls, Bag W.heap.size W.heap.size n v ls wr ∧ ls.map LetV.k = (cs.take k).map ArgL.k
  below : Below W.heap.size W wr

set_option maxRecDepth 100000 in
set_option maxHeartbeats 12800000 in
theorem order_law (room : Int) (ao : Option Addr) (N cap : Nat) (cs : List ArgL) (W : World) (hN : cs.length = N) (hmax : N ≤ maxLen) (hok : ∀ c ∈ cs, ArgOk W c) (hat : 0 < N → ∃ b off, ao = some ⟨b, off, none⟩ ∧ ∀ i c, cs[i]? = some c → LetAt W b (off + i * 3) c) :
    Calls Try.prog 3 #[.int .i64 room, .slice ao N cap] W fun e W' => e = .returned (.bool true) ∧ Below W.heap.size W W' := by
  have hmax' : N ≤ 9223372036854775807 := by simpa [maxLen] using hmax
  by_cases hbig : 2000 < N
  · go_enter Try.func3, Try.ntmps3
    go_wp2
    go_ret
    exact ⟨rfl, Below.refl _ _⟩
  obtain ⟨m, hm, hbit⟩ := and1023 room
  have hbit' : bits BinOp.and IntKind.i64 room 1023 = ((m : Nat) : Int) := hbit
  have hnew := new_any (1 + m) W (by omega) (by omega)
  rw [show (((1 + m : Nat)) : Int) = 1 + (m : Int) from by omega] at hnew
  clear hbit
  go_enter Try.func3, Try.ntmps3
  go_wp2_with (first | (go_at_call 8; refine hnew.mono ?_; rintro e1 w1 ⟨rfl, rfl⟩) | (go_at_call 9; refine (num_any _ _).mono ?_; rintro e2 w2 ⟨rfl, rfl⟩) | fail)
  have hb1 : Below W.heap.size W (W.alloc (.cells #[.int .i64 (1 + (m : Int)), .slice none 0 0] 54)) := by go_grown
  have hbag1 : Bag W.heap.size W.heap.size (1 + m) (.slice none 0 0) [] (W.alloc (.cells #[.int .i64 (1 + (m : Int)), .slice none 0 0] 54)) := by
    have := new_bag W.heap.size (1 + m) W
    rwa [show (((1 + m : Nat)) : Int) = 1 + (m : Int) from by omega] at this
  generalize (W.alloc (.cells #[.int .i64 (1 + (m : Int)), .slice none 0 0] 54)) = w1 at *
  go_loopw [8, 9] (fun i _ wr => ∃ k : Nat, k ≤ N ∧ i = .int .i64 k ∧ OrdI W cs (1 + m) (min k (1 + m)) wr) (fun i _ _ => N - (intOf i).toNat)
  case atStart => exact ⟨0, Nat.zero_le _, rfl, ⟨⟨_, [], hbag1, rfl⟩, hb1⟩⟩
  case round =>
    obtain ⟨k, hk, rfl, ⟨⟨v, ls, hBag, hls⟩, hbr⟩⟩ := hrel
    clear hnew hb1 hbag1
    have hlen : ls.length = min k (1 + m) := by
      have := congrArg List.length hls
      rw [List.length_map, List.length_map, List.length_take, hN] at this
      omega
    by_cases hlt : k < N
    · obtain ⟨b, off, rfl, hcell⟩ := hat (by omega)
      obtain ⟨c, hc⟩ : ∃ c, cs[k]? = some c := ⟨cs[k]'(by omega), List.getElem?_eq_getElem _⟩
      have hca := (hcell k c hc).up hbr rfl
      have hco := hok c (List.mem_of_getElem? hc)
      obtain ⟨d0, d1, d2⟩ := hca
      have hown := own_any c.f c.t c.ao c.bs.length c.cap c.bs wr rfl hco.nil (by have := hco.size; omega) (hco.src.up hbr rfl)
      simp only [ArgL.d] at d2
      have hzr := hbr.size
      go_wp2_with fail
      refine hown.mono ?_
      rintro e3 w3 ⟨d, rfl, hd, hb3⟩
      have hBag3 := hBag.below hb3
      have hbr3 := hbr.trans (hb3.mono hzr)
      obtain ⟨dao, dcap, rfl, _, dnil, dfrom, _⟩ := own_from hd
      have hdlt : ∀ b o, dao = some ⟨b, o, none⟩ → b < w3.heap.size := fun b o e => (hd.lt b (by rw [e]; rfl)).2
      have hz3 := hbr3.size
      have hbs := hco.size
      clear hown d0 d1 d2
      by_cases hkn : k < 1 + m
      · have hsend := send_room w3 hBag3 (by omega) (by omega) hz3 c.f c.t dao c.bs.length dcap c.bs rfl dnil (by omega) dfrom hdlt
        go_wp2_with fail
        refine hsend.mono ?_
        rintro e4 w4 ⟨rfl, v4, d4, hBag4, hst4, _⟩
        have hbr4 : Below W.heap.size W w4 := hbr3.trans (hst4.below hz3 (Nat.le_refl _) fun j hj => (hBag3.own.lt j hj).1)
        have hls4 : (ls ++ [(⟨c.f, c.t, d4, c.bs⟩ : LetV)]).map LetV.k = (cs.take (min (k + 1) (1 + m))).map ArgL.k := by
          rw [min_take (by omega) hkn hc, List.map_append, List.map_append, hls]
          rfl
        have H4 : Hid _ := hls4
        clear hsend hst4 hBag hBag3 hls hls4 hlen hbr hbr3 hb3 hd dnil dfrom hdlt
        have hkn' : (k : Int) < 1 + (m : Int) := by omega
        go_wp2_with (first | (go_at_call 9; refine (num_any _ _).mono ?_; rintro e5 w5 ⟨rfl, rfl⟩) | fail)
        go_roundw
        case rel => exact ⟨k + 1, by omega, by go_num, ⟨⟨_, _, hBag4, H4.out⟩, hbr4⟩⟩
        case measure => simp [intOf]; omega
      · have hsend := send_full w3 hBag3 (by omega) (by omega) (.slice dao c.bs.length dcap) c.f c.t
        go_wp2_with fail
        refine hsend.mono ?_
        rintro e4 w4 ⟨rfl, hb4⟩
        have hBag4 := hBag3.below hb4
        have hbr4 := hbr3.trans (hb4.mono hz3)
        have hls4 : ls.map LetV.k = (cs.take (min (k + 1) (1 + m))).map ArgL.k := by rw [min_take' (by omega)]; exact hls
        have H4 : Hid _ := hls4
        clear hsend hb4 hBag hBag3 hls hls4 hlen hbr hbr3 hb3 hd dnil dfrom hdlt
        have hkn' : ¬ ((k : Int) < 1 + (m : Int)) := by omega
        go_wp2_with (first | (go_at_call 9; refine (num_any _ _).mono ?_; rintro e5 w5 ⟨rfl, rfl⟩) | fail)
        go_roundw
        case rel => exact ⟨k + 1, by omega, by go_num, ⟨⟨_, _, hBag4, H4.out⟩, hbr4⟩⟩
        case measure => simp [intOf]; omega
    · obtain rfl : k = N := by omega
      have hlenm := len_any wr hBag
      rw [hlen] at hlenm
      have hq : (((min k (1 + m) : Nat) : Int) != if (k : Int) < 1 + (m : Int) then (k : Int) else 1 + (m : Int)) = false := by
        simp only [bne_eq_false_iff_eq]
        split <;> omega
      go_wp2_with (first | (go_at_call 12; refine hlenm.mono ?_; rintro e3 w3 ⟨rfl, rfl⟩) | fail)
      all_goals (
      go_loopw [10, 11, 12] (fun i _ _ wq => ∃ j : Nat, j ≤ min k (1 + m) ∧ i = .int .i64 j ∧ (∃ v ls, Bag W.heap.size W.heap.size (1 + m) v ls wq ∧ ls.map LetV.k = ((cs.take (min k (1 + m))).drop j).map ArgL.k) ∧ Below W.heap.size W wq) (fun i _ _ _ => k - (intOf i).toNat)
      case atStart => exact ⟨0, Nat.zero_le _, rfl, ⟨_, _, hBag, by simpa using hls⟩, hbr⟩
      case round =>
        obtain ⟨j, hj, rfl, ⟨v2, ls2, hBag2, hls2⟩, hbr2⟩ := hrel
        rename World => wq
        clear hBag hls hlenm hbr
        have hlen2 : ls2.length = min k (1 + m) - j := by
          have := congrArg List.length hls2
          rw [List.length_map, List.length_map, List.length_drop, List.length_take, hN] at this
          omega
        by_cases hjm : j < min k (1 + m)
        · have hjk : j < k := by omega
          have hj1 : (j : Int) < 1 + (m : Int) := by omega
          have hj2 : (j : Int) < (k : Int) := by omega
          obtain ⟨b, off, rfl, hcell⟩ := hat (by omega)
          obtain ⟨c, hc⟩ : ∃ c, cs[j]? = some c := ⟨cs[j]'(by omega), List.getElem?_eq_getElem _⟩
          obtain ⟨l, ls3, rfl⟩ : ∃ l ls3, ls2 = l :: ls3 := by
            cases ls2 with
            | nil => simp at hlen2; omega
            | cons l ls3 => exact ⟨l, ls3, rfl⟩
          obtain ⟨hkey, hls3⟩ := ord_step hc hjm (by omega) hls2
          have hcj := hcell j c hc
          have hco := hok c (List.mem_of_getElem? hc)
          have hdel := deliver_at wq hBag2 (by simp at hlen2 ⊢; omega) 0 l rfl
          rw [show ((0 : Nat) : Int) = 0 from rfl] at hdel
          have hdat := hBag2.dat l (by simp)
          have hdne := hBag2.dne l (by simp)
          have hz2 := hbr2.size
          have hv2 : ∀ j, v2.ownBlock = some j → W.heap.size ≤ j := fun j hj => (hBag2.own.lt j hj).1
          have hall : l.c.all (·.oneCell') = true := by
            obtain ⟨x, y, h, _⟩ := own_slice hdat
            simp [LetV.c, letC, h, Value.oneCell']
          have HK : Hid _ := hkey
          have HL : Hid _ := hls3
          clear hls2 hlen2 hkey hls3 hBag2 hat hcell
          go_wp2_with fail
          refine hdel.mono ?_
          rintro e6 wd ⟨rfl, v3, hBag3, hst3⟩
          replace hBag3 : Bag W.heap.size W.heap.size (1 + m) v3 ls3 wd := hBag3
          have hbd : Below W.heap.size W wd := hbr2.trans (hst3.below hz2 (Nat.le_refl _) hv2)
          have hdat3 : wd.ownsRow W.heap.size 5 1 l.d l.bs.length (l.bs.map B) := ownsRow_same hdat fun g hg => hst3.block g (hdat.lt g hg).2 (hdne g hg).1 (hdne g hg).2
          have hBz : (wd.alloc (.cells #[.int .i64 0, .int .i64 0, .slice none 0 0] 31)).heap[wd.heap.size]? = some (.cells #[.int .i64 0, .int .i64 0, .slice none 0 0] 31 (0, 0)) := heap_alloc_new wd _
          clear hdel hst3 hdat hdne hv2 hbr2 hz2
          go_wp2_with (first | (refine wpList_store_row rfl 31 (.tmp 11) (.tmp 74) rfl wd.heap.size l.c rfl rfl 31 _ hBz (by kernel_rfl) rfl hall ?_) | fail)
          rename_i K hK
          refine wp_region_mix (CDel W wd.heap.size l.c) (fun i => i == 1 || i == 9 || i == 12) 12 (by kernel_rfl) rfl (by kernel_rfl) (by kernel_rfl) (by kernel_rfl) ?_
          have hC : CDel W wd.heap.size l.c ({ ((wd.alloc (.cells #[.int .i64 0, .int .i64 0, .slice none 0 0] 31)).setRow wd.heap.size l.c) with drawn := ((wd.alloc (.cells #[.int .i64 0, .int .i64 0, .slice none 0 0] 31)).setRow wd.heap.size l.c).drawn + 1 } : World) := by
            refine ⟨?_, setRow_heap _ _ _ _ 31 _ hBz⟩
            have h1 : Below W.heap.size W ((wd.alloc (.cells #[.int .i64 0, .int .i64 0, .slice none 0 0] 31)).setRow wd.heap.size l.c) := below_setRow' (hbd.alloc hbd.size _) hbd.size
            exact ⟨h1.os, h1.tape, h1.output, h1.size, h1.block⟩
          have hlow : ∀ g, g < wd.heap.size → ({ ((wd.alloc (.cells #[.int .i64 0, .int .i64 0, .slice none 0 0] 31)).setRow wd.heap.size l.c) with drawn := ((wd.alloc (.cells #[.int .i64 0, .int .i64 0, .slice none 0 0] 31)).setRow wd.heap.size l.c).drawn + 1 } : World).heap[g]? = wd.heap[g]? := fun g hg => (heap_setRow_other _ _ _ (by omega)).trans (Below.heap_alloc _ _ _ hg)
          have hsY : wd.heap.size ≤ ({ ((wd.alloc (.cells #[.int .i64 0, .int .i64 0, .slice none 0 0] 31)).setRow wd.heap.size l.c) with drawn := ((wd.alloc (.cells #[.int .i64 0, .int .i64 0, .slice none 0 0] 31)).setRow wd.heap.size l.c).drawn + 1 } : World).heap.size := by simp [World.setRow]
          generalize ({ ((wd.alloc (.cells #[.int .i64 0, .int .i64 0, .slice none 0 0] 31)).setRow wd.heap.size l.c) with drawn := ((wd.alloc (.cells #[.int .i64 0, .int .i64 0, .slice none 0 0] 31)).setRow wd.heap.size l.c).drawn + 1 } : World) = Y at *
          have hBagY : Bag W.heap.size W.heap.size (1 + m) v3 ls3 Y := hBag3.keep hlow
          have hdatY : Y.ownsRow W.heap.size 5 1 l.d l.bs.length (l.bs.map B) := ownsRow_same hdat3 fun g hg => hlow g (hdat3.lt g hg).2
          have hal : ∀ Y, CDel W wd.heap.size l.c Y → Y.ownsRow W.heap.size 5 1 l.d l.bs.length (l.bs.map B) → Calls Try.prog 14 #[.agg l.c, .agg (letC c.f c.t c.d)] Y fun e w' => e = .returned (.bool true) ∧ Below Y.heap.size Y w' := fun Y hY hd => by
            obtain ⟨lao, lcap, hld, _, _, hlf, _⟩ := own_from hd
            have h1 := alike_any l.f l.t c.f c.t lao c.ao l.bs.length c.bs.length lcap c.cap l.bs c.bs Y rfl rfl hlf (hco.src.up hY.1 rfl)
            have h2 : alikeB l.f l.t l.bs c.f c.t c.bs = true := by
              have := HK.out
              simp only [LetV.k, ArgL.k, Prod.mk.injEq] at this
              simp [alikeB, this.1, this.2.1, this.2.2]
            rw [h2, ← hld] at h1
            exact h1
          have hal := hal Y hC hdatY
          clear hdat3 hdatY hBag3 hBz hbd
          have hYs := hC.2.lt
          generalize hbx : wd.heap.size = bx at *
          refine withFrP (N := 101) rfl ?_
          intro f0 F0 hff
          have h1 : f0 1 = .slice (some ⟨b, off, none⟩) k cap := hff 1
          have h10 : f0 10 = .int .i64 (j : Nat) := hff 10
          have h11 : f0 11 = .pointer (some ⟨bx, 0, none⟩) := hff 11
          have h12 : f0 12 = .int .i64 0 := hff 12
          clear hff
          refine lyp F0 rfl hC rfl (by omega) (wanted_none rfl) (v := Value.int .i64 0) (fun wr hwr => by simp only [execOp, (F0.eval 12 (by omega)).trans (show _ = Value.int .i64 0 from by simp [upd, h1, h10, h11, h12])]; first | rfl | simp [go_sem]) fun F1 => ?_
          refine lcp F1 rfl hC rfl (by omega) (wanted_none rfl) (g := 9) (args := #[.int .i64 0]) (by simp only [execOp, resolve, invoke, List.map_toArray, List.map_cons, List.map_nil, (F1.eval 76 (by omega)).trans (show _ = Value.int .i64 0 from by simp [upd, h1, h10, h11, h12])]; simp [go_sem, Act.eval]) (num_any 0 Y) ?_
          rintro e7 Y1 ⟨rfl, rfl⟩
          refine ⟨_, rfl, fun F2 => ?_⟩
          refine lyp F2 rfl hC rfl (by omega) (wanted_none rfl) (v := Value.bool false) (fun wr hwr => by simp only [execOp, (F2.eval 77 (by omega)).trans (show _ = Value.int .i64 0 from by simp [upd, h1, h10, h11, h12])]; simp [go_sem, Act.eval]) fun F3 => ?_
          refine lyp F3 rfl hC rfl (by omega) (wanted_none rfl) (v := Value.bool false) (fun wr hwr => by simp only [execOp, (F3.eval 78 (by omega)).trans (show _ = Value.bool false from by simp [upd, h1, h10, h11, h12])]; first | rfl | simp [go_sem]) fun F4 => ?_
          refine lyp F4 rfl hC rfl (by omega) (by rw [wanted_some rfl, F4.yields (i := 3) (d := 79) rfl (by omega) (show _ = Value.bool false from by simp [upd])]; rfl) (v := Value.agg l.c) (fun wr hwr => by simp only [execOp, (F4.eval 11 (by omega)).trans (show _ = Value.pointer (some ⟨bx, 0, none⟩) from by simp [upd, h1, h10, h11, h12]), Instr.loadAt, Instr.sureAddr, Sem.run_bind, Sem.run_pure, Result.andThen_ok, run_loadVar_row (P := Try.prog) wr bx 31 31 l.c (0, 0) _ hwr.2 Try.underlying31 rfl (by kernel_rfl)]) fun F5 => ?_
          refine lyp F5 rfl hC rfl (by omega) (by rw [wanted_some rfl, F5.yields (i := 3) (d := 79) rfl (by omega) (show _ = Value.bool false from by simp [upd])]; rfl) (v := Value.slice (some ⟨b, off, none⟩) k cap) (fun wr hwr => by simp only [execOp, (F5.eval 1 (by omega)).trans (show _ = Value.slice (some ⟨b, off, none⟩) k cap from by simp [upd, h1, h10, h11, h12])]; first | rfl | simp [go_sem]) fun F6 => ?_
          refine lyp F6 rfl hC rfl (by omega) (by rw [wanted_some rfl, F6.yields (i := 3) (d := 79) rfl (by omega) (show _ = Value.bool false from by simp [upd])]; rfl) (v := Value.int .i64 (j : Nat)) (fun wr hwr => by simp only [execOp, (F6.eval 10 (by omega)).trans (show _ = Value.int .i64 (j : Nat) from by simp [upd, h1, h10, h11, h12])]; first | rfl | simp [go_sem]) fun F7 => ?_
          refine lyp F7 rfl hC rfl (by omega) (by rw [wanted_some rfl, F7.yields (i := 3) (d := 79) rfl (by omega) (show _ = Value.bool false from by simp [upd])]; rfl) (v := Value.pointer (some ⟨b, off + j * 3, none⟩)) (fun wr hwr => by simp only [execOp, (F7.eval 81 (by omega)).trans (show _ = Value.slice (some ⟨b, off, none⟩) k cap from by simp [upd, h1, h10, h11, h12]), (F7.eval 82 (by omega)).trans (show _ = Value.int .i64 (j : Nat) from by simp [upd, h1, h10, h11, h12])]; simp [go_sem, hjk]) fun F8 => ?_
          refine lyp F8 rfl hC rfl (by omega) (by rw [wanted_some rfl, F8.yields (i := 3) (d := 79) rfl (by omega) (show _ = Value.bool false from by simp [upd])]; rfl) (v := Value.agg (letC c.f c.t c.d)) (fun wr hwr => by have hq := (hcj.up hwr.1 rfl); simp only [execOp, (F8.eval 83 (by omega)).trans (show _ = Value.pointer (some ⟨b, off + j * 3, none⟩) from by simp [upd, h1, h10, h11, h12])]; simp [go_sem, hq.c0, hq.c1, hq.c2, letC]) fun F9 => ?_
          refine lcp F9 rfl hC rfl (by omega) (by rw [wanted_some rfl, F9.yields (i := 3) (d := 79) rfl (by omega) (show _ = Value.bool false from by simp [upd])]; rfl) (g := 14) (args := #[.agg l.c, .agg (letC c.f c.t c.d)]) (by simp only [execOp, resolve, invoke, List.map_toArray, List.map_cons, List.map_nil, (F9.eval 80 (by omega)).trans (show _ = Value.agg l.c from by simp [upd, h1, h10, h11, h12]), (F9.eval 84 (by omega)).trans (show _ = Value.agg (letC c.f c.t c.d) from by simp [upd, h1, h10, h11, h12])]; simp [go_sem, Act.eval]) hal ?_
          rintro e8 Y2 ⟨rfl, hb8⟩
          refine ⟨_, rfl, fun F10 => ?_⟩
          have hC2 : CDel W bx l.c Y2 := ⟨hC.1.trans (hb8.mono hC.1.size), (hb8.block _ hC.2.lt).trans hC.2⟩
          refine lyp F10 rfl hC2 rfl (by omega) (by rw [wanted_some rfl, F10.yields (i := 3) (d := 79) rfl (by omega) (show _ = Value.bool false from by simp [upd])]; rfl) (v := Value.bool false) (fun wr hwr => by simp only [execOp, (F10.eval 85 (by omega)).trans (show _ = Value.bool true from by simp [upd, h1, h10, h11, h12])]; simp [go_sem, Act.eval]) fun F11 => ?_
          refine lyp F11 rfl hC2 rfl (by omega) (wanted_none rfl) (v := Value.bool false) (fun wr hwr => by simp only [execOp, (F11.eval 79 (by omega)).trans (show _ = Value.bool false from by simp [upd, h1, h10, h11, h12]), (F11.eval 86 (by omega)).trans (show _ = Value.bool false from by simp [upd, h1, h10, h11, h12])]; simp [go_sem, Act.eval]) fun F12 => ?_

          refine ⟨fun _ => hC2, ?_⟩
          have hbY2 := hC2.1
          have hBag2 : Bag W.heap.size W.heap.size (1 + m) v3 ls3 Y2 := hBagY.below hb8
          clear F0 F1 F2 F3 F4 F5 F6 F7 F8 F9 F10 F11 F12 h1 h10 h11 h12 hC hC2 hb8 hal hBagY hlow
          show K _ _
          apply hK
          simp only [Act.put, List.setIfInBounds_toArray, List.set_cons_succ, List.set_cons_zero]
          go_wp2
          go_roundw
          case rel => exact ⟨j + 1, by omega, by go_num, ⟨v3, ls3, hBag2, HL.out⟩, hbY2⟩
          case measure => simp [intOf]; omega
        · have hno := deliver_no wq hBag2 0 (by omega)
          have hz2 := hbr2.size
          have hl0 : ls2.length = 0 := by omega
          have hor : (j : Int) < 1 + (m : Int) ∧ ¬ ((j : Int) < (k : Int)) ∨ ¬ ((j : Int) < 1 + (m : Int)) := by omega
          have hallZ : zeroL.all (·.oneCell') = true := by simp [zeroL, Value.oneCell']
          clear hlen2 hls2
          rcases hor with ⟨hj1, hj2⟩ | hj1
          all_goals (
          go_wp2_with fail
          refine hno.mono ?_
          rintro e9 we ⟨rfl, hbe⟩
          have hBe := hBag2.below hbe
          have hbe2 := hbr2.trans (hbe.mono hz2)
          have hBz : Blk (we.alloc (.cells #[.int .i64 0, .int .i64 0, .slice none 0 0] 31)) we.heap.size zeroL 31 := heap_alloc_new we _
          have hze := hbe2.size
          have hbX : Below W.heap.size W ((we.alloc (.cells #[.int .i64 0, .int .i64 0, .slice none 0 0] 31)).setRow we.heap.size zeroL) := below_setRow' (hbe2.alloc hze _) hze
          have hlX := len_any ((we.alloc (.cells #[.int .i64 0, .int .i64 0, .slice none 0 0] 31)).setRow we.heap.size zeroL) (hBe.keep fun g hg => (heap_setRow_other _ _ _ (by omega)).trans (Below.heap_alloc _ _ _ hg))
          rw [hl0, show ((0 : Nat) : Int) = 0 from rfl] at hlX
          have HX : Hid _ := hbX
          clear hno hbe hBe hbe2 hBag2 hbr2 hbX
          go_wp2_with (first | (refine wpList_store_row rfl 31 (.tmp 13) (.tmp 91) rfl we.heap.size zeroL rfl rfl 31 _ hBz (by kernel_rfl) rfl hallZ ?_) | (go_at_call 9; refine (num_any _ _).mono ?_; rintro e5 w5 ⟨rfl, rfl⟩) | (go_at_call 12; refine hlX.mono ?_; rintro e6 w6 ⟨rfl, rfl⟩) | fail)
          go_ret
          exact ⟨rfl, HX.out⟩))
end Go.Proofs.Ytehjdkdoalmaeaa
