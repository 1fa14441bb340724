import Derived.Test.YtboghanldbmfmabDoorArgsC
import Derived.Test.YtboghanldbmfmabDoorOpens2
namespace Go.Proofs.YtboghanldbmfmabDoor
open Go.RowKit

def total (cs : List CallV) (k : Nat) : Nat := ((cs.take k).map (·.n)).sum
theorem total_succ (cs : List CallV) (k : Nat) (c : CallV) (h : cs[k]? = some c) : total cs (k + 1) = total cs k + c.n := by
  unfold total
  rw [List.take_add_one, h, List.map_append, List.sum_append]
  simp
theorem total_le (cs : List CallV) (k : Nat) (h : ∀ c ∈ cs, c.n ≤ 140737488351232) : total cs k ≤ k * 140737488351232 := by
  induction k with
  | zero => simp [total]
  | succ k ih =>
    cases hc : cs[k]? with
    | none =>
      have : total cs (k + 1) = total cs k := by unfold total; rw [List.take_add_one, hc]; simp
      omega
    | some c =>
      rw [total_succ cs k c hc]
      have := h c (List.mem_of_getElem? hc)
      omega
theorem total_mem (cs : List CallV) (k i : Nat) (c : CallV) (h : cs[i]? = some c) (hi : i < k) : c.n ≤ total cs k := by
  induction k with
  | zero => omega
  | succ k ih =>
    by_cases hik : i = k
    · subst hik; rw [total_succ cs i c h]; omega
    · have h1 := ih (by omega)
      have h2 : total cs k ≤ total cs (k + 1) := by
        cases hc : cs[k]? with
        | none => unfold total; rw [List.take_add_one, hc]; simp
        | some c' => rw [total_succ cs k c' hc]; omega
      omega

theorem shelf_new {L : Nat} {w : World} (hL : L ≤ w.heap.size) :
    Shelf L w.heap.size (w.alloc (.cells #[.slice none 0 0, .slice none 0 0, .int .i64 0, .slice none 0 0, .slice none 0 0, .slice none 0 0] 28)) 0 (.slice none 0 0) (.slice none 0 0) [] none (.slice none 0 0) (.slice none 0 0) [] := by
  refine ⟨heap_alloc_new w _, hL, by omega, tail_nil _ _ _, tail_nil _ _ _, World.ownsRow_nil _ _ _ _, World.ownsRow_nil _ _ _ _, ?_, ?_, ?_, ?_, ?_, ?_, ?_⟩
  · intro g bs e; cases e
  · intro e he; cases he
  · intro e he; cases he
  · intro g bs e; cases e
  · intro g bs e; cases e
  · intro g hg; simp [Value.ownBlock] at hg
  · intro g hg; simp [Value.ownBlock] at hg
theorem fine_new : Fine 0 [] := ⟨⟨fun k e he => by simp at he, fun i j a b g _ ha => by simp at ha⟩, Nat.le_refl _, fun e he => by cases he⟩

set_option maxHeartbeats 1000000 in
theorem frameAll_walk (ao : Option Addr) (N cap : Nat) (cs : List CallV) (w : World) (hcl : cs.length = N) (hN : N ≤ 9223372036854775807) (hok : ∀ c ∈ cs, CallOk w c)
    (hat : 0 < N → ∃ b off, ao = some ⟨b, off, none⟩ ∧ ∀ i c, cs[i]? = some c → CallAt w ⟨b, off + i * 4, none⟩ c) (hT : Tab w) :
    Calls Tryd.prog 4 #[.slice ao N cap] w fun e w' => e = .returned (.bool true) ∧ Below w.heap.size w w' := by
  have HT : Hid _ := hT
  have HOK : Hid _ := hok
  clear hT hok
  have hbound : ∀ c ∈ cs, c.n ≤ 140737488351232 := fun c hc => (HOK.out c hc).size
  go_enter Tryd.func4, Tryd.ntmps4
  go_wp2
  go_loopw [3, 4] (fun n i wr => ∃ k : Nat, k ≤ N ∧ i = .int .i64 k ∧ (∃ z : Int, n = .int .i64 z ∧ (k ≤ 200 → z = (total cs k : Nat))) ∧ ∃ q, wr = w.drewN q) (fun _ i _ => N - (intOf i).toNat)
  case atStart => exact ⟨0, Nat.zero_le _, rfl, ⟨0, rfl, fun _ => rfl⟩, 0, rfl⟩
  case round =>
    obtain ⟨k, hk, rfl, ⟨z, rfl, hz⟩, q, rfl⟩ := hrel
    by_cases hlt : k < N
    · obtain ⟨b, off, rfl, hcall⟩ := hat (by omega)
      obtain ⟨c, hc⟩ : ∃ c, cs[k]? = some c := ⟨cs[k]'(by omega), List.getElem?_eq_getElem _⟩
      have d3 := (hcall k c hc).c3
      rw [show (Addr.add ⟨b, off + k * 4, none⟩ 3) = ⟨b, off + k * 4 + 3, none⟩ from by unfold Addr.add; split <;> simp_all] at d3
      have hcn := hbound c (List.mem_of_getElem? hc)
      have hts := total_succ cs k c hc
      have htl := total_le cs k hbound
      clear hcall hat hbound
      by_cases h200 : k < 200
      · have hz' := hz (by omega)
        subst hz'
        have HTS : Hid _ := hts
        clear hts hz
        generalize total cs k = tk at *
        go_wp2
        go_roundw
        case rel => exact ⟨k + 1, by omega, by go_num, ⟨_, rfl, fun _ => by rw [HTS.out]; omega⟩, _, rfl⟩
        case measure => simp [intOf]; omega
      · clear hz hts htl
        go_wp2
        go_roundw
        case rel => exact ⟨k + 1, by omega, by go_num, ⟨_, rfl, fun h => by omega⟩, _, rfl⟩
        case measure => simp [intOf]; omega
    · obtain rfl : k = N := by omega
      by_cases h200 : 200 < k
      · clear hz hat hbound
        go_wp2
        go_ret
        exact ⟨rfl, below_drewN (Below.refl _ _) _⟩
      · have hz' := hz (by omega)
        subst hz'
        clear hz
        have htl := total_le cs k hbound
        by_cases hbig : 65536 < total cs k
        · clear hat hbound
          generalize total cs k = tk at *
          go_wp2
          go_ret
          exact ⟨rfl, below_drewN (Below.refl _ _) _⟩
        · have hsmall : ∀ (i : Nat) (c : CallV), cs[i]? = some c → c.n ≤ 65536 := fun i c hc => by
            have := total_mem cs k i c hc (by have := (List.getElem?_eq_some_iff.1 hc).1; omega)
            omega
          have HSM : Hid _ := hsmall
          clear hsmall hbound
          generalize total cs k = tk at *
          have hb0 : Below w.heap.size w (w.drewN q) := below_drewN (Below.refl _ _) _
          go_wp2_with fail
          refine (alive_any (w.drewN q) HT.out).mono ?_
          rintro e w1 ⟨rfl, hb1⟩
          replace hb1 := hb0.trans hb1
          clear hb0
          go_wp2_with fail
          have hL : w.heap.size ≤ w1.heap.size := hb1.size
          have hS2 := shelf_new hL
          have hb2 : Below w.heap.size w (w1.alloc (.cells #[.slice none 0 0, .slice none 0 0, .int .i64 0, .slice none 0 0, .slice none 0 0, .slice none 0 0] 28)) := hb1.alloc hL _
          generalize w1.alloc (.cells #[.slice none 0 0, .slice none 0 0, .int .i64 0, .slice none 0 0, .slice none 0 0, .slice none 0 0] 28) = w2 at *
          generalize w1.heap.size = s at *
          go_loopw [5, 7, 8, 9, 10] (fun lv i _ _ _ wr => ∃ k2 : Nat, k2 ≤ k ∧ i = .int .i64 k2 ∧ lv = .bool true ∧ Below w.heap.size w wr ∧ ∃ m lv hv ls lent fv wv fs, m ≤ k2 ∧ ls.length ≤ 8 ∧ Shelf w.heap.size s wr m lv hv ls lent fv wv fs ∧ Fine m fs) (fun _ i _ _ _ _ => k - (intOf i).toNat)
          case atStart => exact ⟨0, Nat.zero_le _, rfl, rfl, hb2, 0, _, _, [], none, _, _, [], Nat.le_refl _, by simp, hS2, fine_new⟩
          case round =>
            obtain ⟨k2, hk2, rfl, rfl, hbr, m, lv, hv, ls, lent, fv, wv, fs, hmk, hll, hS, hF⟩ := hrel
            clear hS2 hb2 hb1 hL
            by_cases hlt2 : k2 < k
            · obtain ⟨b, off, rfl, hcall⟩ := hat (by omega)
              obtain ⟨⟨kind, spot, add, co, n, ccap, ps⟩, hc⟩ : ∃ c, cs[k2]? = some c := ⟨cs[k2]'(by omega), List.getElem?_eq_getElem _⟩
              have hca := hcall k2 _ hc
              have hco := HOK.out _ (List.mem_of_getElem? hc)
              have hmx : n ≤ 65536 := HSM.out k2 _ hc
              have lt : ∀ {ad : Addr} {v : Value}, w.cell? ad = some v → wr.cell? ad = some v := fun h => (hbr.cell (World.block_lt_of_cell? w _ h)).trans h
              have d0 : wr.cell? ⟨b, off + k2 * 4, none⟩ = some (.int .i64 kind) := lt hca.c0
              have d1 : wr.cell? (Addr.add ⟨b, off + k2 * 4, none⟩ 1) = some (.int .i64 spot) := lt hca.c1
              have d2 : wr.cell? (Addr.add ⟨b, off + k2 * 4, none⟩ 2) = some (B add) := lt hca.c2
              have d3 : wr.cell? (Addr.add ⟨b, off + k2 * 4, none⟩ 3) = some (.slice co n ccap) := lt hca.c3
              rw [show (Addr.add ⟨b, off + k2 * 4, none⟩ 1) = ⟨b, off + k2 * 4 + 1, none⟩ from by unfold Addr.add; split <;> simp_all] at d1
              rw [show (Addr.add ⟨b, off + k2 * 4, none⟩ 2) = ⟨b, off + k2 * 4 + 2, none⟩ from by unfold Addr.add; split <;> simp_all] at d2
              rw [show (Addr.add ⟨b, off + k2 * 4, none⟩ 3) = ⟨b, off + k2 * 4 + 3, none⟩ from by unfold Addr.add; split <;> simp_all] at d3
              have hpl : ps.length = n := hco.len
              have hcap : n ≤ ccap := hco.cap
              have hsw : Src w co ps := hco.src
              have hspb : -9223372036854775808 ≤ spot ∧ spot ≤ 9223372036854775807 := hco.spotB
              have hkb : -9223372036854775808 ≤ kind ∧ kind ≤ 9223372036854775807 := hco.kindB
              simp only [B] at d2
              have hal := byte_lt add
              obtain ⟨wB, hwB⟩ : ∃ wB, wB = wr.alloc (.cells #[.int .i64 kind, .int .i64 spot, .int .u8 (add.toNat : Nat), .slice co n ccap] 33) := ⟨_, rfl⟩
              have hbx : Below wr.heap.size wr wB := by rw [hwB]; exact (Below.refl _ _).alloc (Nat.le_refl _) _
              have hzr := hbr.size
              have hbB : Below w.heap.size w wB := hbr.trans (hbx.mono hzr)
              have hSB := hS.below hbx
              have hsB : Src wB co ps := src_keep hsw hbB
              have hTT : ∀ w', Below w.heap.size wB w' → Tab w' := fun w' h' => tab_below HT.out (hbB.trans h')
              have hsafe : Safe w.heap.size wB lent co ps := fun h0 ad e => .inl (by
                obtain ⟨ad', e', hc'⟩ := hsw h0
                rw [e] at e'
                cases e'
                have hb := World.block_lt_of_cell? w _ (hc' 0 _ (List.getElem?_eq_getElem h0))
                unfold Addr.add at hb
                split at hb <;> exact hb)
              have hbox : wB.heap[wr.heap.size]? = some (.cells #[.int .i64 kind, .int .i64 spot, .int .u8 (add.toNat : Nat), .slice co n ccap] 33 (0, 0)) := by rw [hwB]; exact heap_alloc_new wr _
              have HW : Hid _ := hwB
              clear hca hcall hat lt hco hc hsw hwB hS hbr
              by_cases h1 : kind = 1
              · subst h1
                clear hbox
                go_wp2_with fail
                rw [← HW.out]
                refine (seals_any w.heap.size s wB m lv hv ls lent fv wv fs co n ccap ps hSB hF (by omega) hll hpl hmx hsB hsafe hTT).mono ?_
                rintro e w3 ⟨rfl, lv', hv', ls', lent', fv', wv', fs', hl', hS', hF', _, hb'⟩
                replace hb' := hbB.trans hb'
                clear d0 d1 d2 d3 hSB hF hsB hsafe hTT hbB
                go_wp2
                go_roundw
                case rel => exact ⟨k2 + 1, by omega, by go_num, rfl, hb', m + 1, _, _, _, _, _, _, _, by omega, hl', hS', hF'⟩
                case measure => simp [intOf]; omega
              by_cases h2 : kind = 2
              · subst h2
                clear hbox
                go_wp2_with fail
                rw [← HW.out]
                refine (opens_any w.heap.size s wB m lv hv ls lent fv wv fs co n ccap ps hSB hF (by omega) hll hpl hmx hcap hsB hsafe hTT).mono ?_
                rintro e w3 ⟨rfl, lv', hv', ls', lent', fv', wv', fs', hl', hS', hF', _, hb'⟩
                replace hb' := hbB.trans hb'
                clear d0 d1 d2 d3 hSB hF hsB hsafe hTT hbB
                go_wp2
                go_roundw
                case rel => exact ⟨k2 + 1, by omega, by go_num, rfl, hb', m + 1, _, _, _, _, _, _, _, by omega, hl', hS', hF'⟩
                case measure => simp [intOf]; omega
              have n1 : (kind == 1) = false := by rw [beq_eq_false_iff_ne]; exact h1
              have n2 : (kind == 2) = false := by rw [beq_eq_false_iff_ne]; exact h2
              by_cases h3 : kind = 3
              · subst h3
                by_cases h4 : 4096 < n
                · clear hbox
                  go_wp2_with fail
                  rw [← HW.out]
                  refine (refSeal_long co n ccap wB h4 (by omega)).mono ?_
                  rintro e wz ⟨rfl, hwz⟩
                  subst wz
                  go_wp2_with fail
                  refine (opens_any w.heap.size s wB m lv hv ls lent fv wv fs none 0 0 [] hSB hF (by omega) hll rfl (by omega) (by omega) (fun h => by cases h) (fun h => by cases h) hTT).mono ?_
                  rintro e w3 ⟨rfl, lv', hv', ls', lent', fv', wv', fs', hl', hS', hF', _, hb'⟩
                  replace hb' := hbB.trans hb'
                  clear d0 d1 d2 d3 hSB hF hsB hsafe hTT hbB
                  go_wp2
                  go_roundw
                  case rel => exact ⟨k2 + 1, by omega, by go_num, rfl, hb', m + 1, _, _, _, _, _, _, _, by omega, hl', hS', hF'⟩
                  case measure => simp [intOf]; omega
                · go_wp2_with fail
                  rw [← HW.out]
                  refine (refSeal_any co n ccap ps wB hpl (by omega) hsB).mono ?_
                  rintro e w3 ⟨bo, bc, rfl, hown, hb3⟩
                  have hbox3 : w3.heap[wr.heap.size]? = some (.cells #[.int .i64 3, .int .i64 spot, .int .u8 (add.toNat : Nat), .slice co n ccap] 33 (0, 0)) := (hb3.block _ (Array.getElem?_eq_some_iff.1 hbox).1).trans hbox
                  have x1 : w3.cell? ⟨wr.heap.size, 1, none⟩ = some (.int .i64 spot) := by rw [cell_of_row w3 wr.heap.size 1 _ 33 (0, 0) hbox3]; rfl
                  have x2 : w3.cell? ⟨wr.heap.size, 2, none⟩ = some (.int .u8 (add.toNat : Nat)) := by rw [cell_of_row w3 wr.heap.size 2 _ 33 (0, 0) hbox3]; rfl
                  obtain ⟨g, gc, e, hBg, hgl⟩ := hown.form (by omega)
                  cases e
                  clear d0 d1 d2 d3 hbox n1 n2
                  obtain ⟨j, hj, hjl⟩ : ∃ j : Nat, spot % ((n + 7 : Nat) : Int) = (j : Nat) ∧ j < n + 7 := by
                    have h5 := Int.emod_nonneg spot (b := ((n + 7 : Nat) : Int)) (by omega)
                    have h6 := Int.emod_lt_of_pos spot (b := ((n + 7 : Nat) : Int)) (by omega)
                    exact ⟨(spot % ((n + 7 : Nat) : Int)).toNat, by omega, by omega⟩
                  have hslot : ∀ wx : World, Calls Tryd.prog 11 #[.int .i64 spot, .int .i64 ((n : Int) + 7)] wx fun x w' => x = .returned (.int .i64 (j : Nat)) ∧ w' = wx := fun wx => by
                    have := slot_any spot (n + 7) wx (by omega) (by omega)
                    rw [hj] at this
                    exact this
                  have hfl := frameOf_len ps
                  have hjl' : j < (frameOf ps).length := by omega
                  have y : w3.cell? ⟨g, j, none⟩ = some (B ((frameOf ps).getD j 0)) := by
                    have := hown.cells (g := g) rfl j (B ((frameOf ps).getD j 0)) (by rw [List.getElem?_map, getD_some _ j hjl']; rfl)
                    rwa [addr_add] at this
                  obtain ⟨_, cur, hcur⟩ := own_blk hown (g := g) rfl
                  have yfz : w3.frozen? ⟨g, j, none⟩ = false := by simp [World.frozen?, hcur]
                  have hval : B ((frameOf ps).getD j 0 + add) = .int .u8 (((((frameOf ps).getD j 0).toNat : Nat) + (add.toNat : Nat) : Int) % 256) := by
                    rw [B]; exact val_u8 (by rw [UInt8.toNat_add]; omega)
                  have hul := byte_lt ((frameOf ps).getD j 0)
                  simp only [B] at y
                  have hbW : Below wB.heap.size wB (w3.setCell ⟨g, j, none⟩ (B ((frameOf ps).getD j 0 + add))) := hb3.setCell (p := ⟨g, j, none⟩) hBg _
                  have hS4 : Shelf w.heap.size s (w3.setCell ⟨g, j, none⟩ (B ((frameOf ps).getD j 0 + add))).drew m lv hv ls lent fv wv fs := (hSB.below hbW).same fun _ _ => rfl
                  have hs4 : Src (w3.setCell ⟨g, j, none⟩ (B ((frameOf ps).getD j 0 + add))).drew (some ⟨g, 0, none⟩) ((frameOf ps).set j ((frameOf ps).getD j 0 + add)) := fun _ => ⟨_, rfl, fun i u hu => by
                    rw [addr_add]
                    show (w3.setCell ⟨g, j, none⟩ _).cell? _ = _
                    rw [cell_set _ _ _ _ _ (by rw [y]; rfl)]
                    rw [List.getElem?_set] at hu
                    by_cases e : i = j
                    · subst e
                      rw [if_pos rfl, if_pos hjl'] at hu
                      cases hu
                      rw [if_pos rfl]
                    · rw [if_neg (fun e' => e e'.symm)] at hu
                      rw [if_neg e]
                      have := hown.cells (g := g) rfl i (B u) (by rw [List.getElem?_map, hu]; rfl)
                      rwa [addr_add] at this⟩
                  have hzB := hbB.size
                  have hsafe4 : Safe w.heap.size (w3.setCell ⟨g, j, none⟩ (B ((frameOf ps).getD j 0 + add))).drew lent (some ⟨g, 0, none⟩) ((frameOf ps).set j ((frameOf ps).getD j 0 + add)) := fun _ ad e => .inr (by
                    cases e
                    refine ⟨⟨_, by show (w3.setCell ⟨g, j, none⟩ _).heap[g]? = _; simp [World.setCell, Array.getElem?_modify, hcur]; rfl⟩, fun g' bs' e' h => ?_⟩
                    have h5 := (Array.getElem?_eq_some_iff.1 (hSB.lentR g' bs' e').2).1
                    have h6 : g = g' := h
                    omega)
                  have hbW' : Below w.heap.size w (w3.setCell ⟨g, j, none⟩ (B ((frameOf ps).getD j 0 + add))).drew := (hbB.trans (hbW.mono hzB)).drew
                  have hsl : ((frameOf ps).set j ((frameOf ps).getD j 0 + add)).length = n + 7 := by rw [List.length_set]; omega
                  have hbc : n + 7 ≤ bc := by
                    obtain ⟨_, _, e, hle, _⟩ := own_src hown
                    cases e
                    exact hle
                  rw [hval] at hS4 hs4 hsafe4 hbW'
                  generalize (frameOf ps).set j ((frameOf ps).getD j 0 + add) = F4 at *
                  have HS4 : Hid _ := hS4
                  have Hs4 : Hid _ := hs4
                  have Hsf : Hid _ := hsafe4
                  have HbW : Hid _ := hbW'
                  have HSL : Hid _ := hslot
                  clear hval hown hslot hj hbW hS4 hs4 hsafe4 hbW' hSB hsB hTT hsafe hbB hb3 hbx hcur hbox3 hfl hjl'
                  generalize ((frameOf ps).getD j 0).toNat = U at *
                  go_wp2_with fail
                  go_region_with (go_at_call 11; refine (HSL.out _).mono ?_; rintro e wz ⟨rfl, hwz⟩; subst wz)
                  all_goals
                    go_wp2_with fail
                    refine (opens_any w.heap.size s _ m lv hv ls lent fv wv fs (some ⟨g, 0, none⟩) (n + 7) bc F4 HS4.out hF (by omega) hll hsl (by omega) hbc Hs4.out Hsf.out (fun w' h' => tab_below HT.out (HbW.out.trans h'))).mono ?_
                    rintro e w5 ⟨rfl, lv', hv', ls', lent', fv', wv', fs', hl', hS', hF', _, hb'⟩
                    replace hb' := HbW.out.trans hb'
                    clear y yfz x1 x2
                    go_wp2
                    go_roundw
                    case rel => exact ⟨k2 + 1, by omega, by go_num, rfl, hb', m + 1, _, _, _, _, _, _, _, by omega, hl', hS', hF'⟩
                    case measure => simp [intOf]; omega
              · have n3 : (kind == 3) = false := by rw [beq_eq_false_iff_ne]; exact h3
                clear hbox
                go_wp2
                go_roundw
                case rel => exact ⟨k2 + 1, by omega, by go_num, rfl, by rw [← HW.out]; exact hbB, m, _, _, _, _, _, _, _, by omega, hll, by rw [← HW.out]; exact hSB, hF⟩
                case measure => simp [intOf]; omega
            · obtain rfl : k2 = k := by omega
              clear hat
              go_wp2_with fail
              refine (apart_any w.heap.size s wr m lv hv ls lent fv wv fs hS hF.good (by have := hF.few; omega) hF.short).mono ?_
              rintro e w8 ⟨rfl, hb8⟩
              go_wp2_with fail
              go_ret
              exact ⟨rfl, hbr.trans hb8⟩
end Go.Proofs.YtboghanldbmfmabDoor
