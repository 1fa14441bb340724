import Derived.Test.YtjpdcahodmomgaaJn12
namespace Go.Proofs.Ytjpdcahodmomgaa
open Go.RowKit Go.PlainAid
set_option linter.unusedVariables false
set_option linter.unusedSimpArgs false
def xAb : DV := wroteX (fresh 4) 1 0 [97, 98] 1
theorem xAb0 : (secL xAb.b 0).getD 0 0 = 1 ∧ (secL xAb.b 0).getD 511 0 = 2 ∧ (secL xAb.b 0).getD 8 0 = 97 := ⟨by kernel_rfl, by kernel_rfl, by kernel_rfl⟩
def litC : Array Value := #[.int .u8 97, .int .u8 98]
/-- A literal's row, with the mark that it came from a string. -/
def litE (L b : Nat) : Ent L where
  bl := fun k => k = b
  P := fun w => w.heap[b]? = some (.cells litC 5 (2, 3)) ∧ L ≤ b
  fr := fun w w' h hP => ⟨(h b rfl).trans hP.1, hP.2⟩
  lo := fun w hP g hg => by subst hg; exact ⟨hP.2, (Array.getElem?_eq_some_iff.1 hP.1).1⟩
theorem lit_by {w : World} {b : Nat} (h : w.heap[b]? = some (.cells litC 5 (2, 3))) : By w (.slice (some ⟨b, 0, none⟩) 2 2) [97, 98] := by
  refine ⟨_, _, _, rfl, rfl, (fun e => by cases e), fun ad e j u hu => ?_⟩
  cases e
  rw [addr_add, Nat.zero_add, cell_of_row w b j litC 5 (2, 3) h]
  match j, hu with
  | 0, hu => exact hu
  | 1, hu => exact hu
  | j + 2, hu => simp at hu
theorem conv_lit (w : World) : (convert 38 38 (.slice (some ⟨w.heap.size, 0, none⟩) 2 2)).run Try.prog (w.alloc (.cells #[.int .u8 97, .int .u8 98] 5)) = .ok (.slice (some ⟨w.heap.size, 0, none⟩) 2 2) (w.alloc (.cells litC 5 (2, 3))) := Lib.run_convert_bytes_const w 38 5 litC 2 2 Try.underlying38 Try.underlying5
theorem held_new {L : Nat} (w : World) (p s : Nat) (x : DV) (h : DM L p s x w) : Held [dmE L p s x] w := ⟨fun e he => by rw [List.mem_singleton.1 he]; exact h, List.pairwise_singleton ..⟩
theorem open_fresh {L p s n : Nat} {R : List (Ent L)} (w : World) (h : Held (dmE L p s (fresh n) :: R) w) (hn : 1 ≤ n) (hn2 : n ≤ 65536) : Calls Try.prog 14 #[.pointer (some ⟨p, 0, none⟩)] w fun e w' => ∃ jb, e = .returned (.tuple #[.pointer (some ⟨jb, 0, none⟩), .int .i64 0]) ∧ Held ((jv0 p n).es L jb ++ (dmE L p s (fresh n) :: R)) w' ∧ Below w.heap.size w w' := open_none w h rfl hn hn2 (zero_none n).1 (zero_none n).2
set_option maxRecDepth 100000 in
set_option maxHeartbeats 400000 in
theorem able_yes (w : World) : Calls Try.prog 9 #[] w fun e w' => e = .returned (.bool true) ∧ Below w.heap.size w w' := by
  obtain ⟨H, hH⟩ : ∃ H, H = w.heap.size := ⟨_, rfl⟩
  have HN : Hid (Calls Try.prog 13 #[.int .i64 4] w fun e w' => ∃ x, x = fresh 4 ∧ e = .returned (.tuple #[.pointer (some ⟨H + 1, 0, none⟩), .int .i64 0]) ∧ Held [dmE H (H + 1) H x] w' ∧ Below H w w' ∧ H ≤ w'.heap.size) := by
    rw [hH]
    refine (new_yes 4 w (by omega)).mono ?_
    rintro e w' ⟨h1, h2, h3⟩
    exact ⟨_, rfl, h1, held_new w' _ _ _ h2, h3, h3.size⟩
  rw [← hH]
  clear hH
  go_enter Try.func9, Try.ntmps9
  go_wp2_with fail
  refine Calls.mono HN.out ?_
  rintro e w1 ⟨x, hx, rfl, h1, hb1, hs1⟩
  have HS1 : Hid (H ≤ w1.heap.size) := hs1
  clear hs1
  clear HN
  have HX : Hid (x = fresh 4) := hx
  have HO : Hid (Calls Try.prog 14 #[.pointer (some ⟨H + 1, 0, none⟩)] w1 fun e w' => ∃ jb y, y = jv0 (H + 1) 4 ∧ e = .returned (.tuple #[.pointer (some ⟨jb, 0, none⟩), .int .i64 0]) ∧ Held (JV.es H jb y ++ [dmE H (H + 1) H x]) w' ∧ Below H w w') := by
    rw [hx] at h1 ⊢
    refine (open_fresh w1 h1 (by omega) (by omega)).mono ?_
    rintro e w' ⟨jb, e1, e2, e3⟩
    exact ⟨jb, _, rfl, e1, e2, hb1.trans (e3.mono HS1.out)⟩
  clear h1 hb1 hx HS1
  go_wp2_with fail
  refine Calls.mono HO.out ?_
  rintro e w2 ⟨jb, y, hy, rfl, h2, hb2⟩
  clear HO
  have hy1 : y.recs.length = 0 ∧ y.next = 0 ∧ y.fin = 4 ∧ y.p = H + 1 := by rw [hy]; exact ⟨rfl, rfl, rfl, rfl⟩
  have HY : Hid (y = jv0 (H + 1) 4) := hy
  have H2 : Hid (Held (y.es H jb ++ [dmE H (H + 1) H x]) w2 ∧ Below H w w2) := ⟨h2, hb2⟩
  have HL : Hid (Calls Try.prog 31 #[.pointer (some ⟨jb, 0, none⟩)] w2 fun e w' => e = .returned (.int .i64 0) ∧ w' = w2) := by
    have := len_any w2 h2 (by omega)
    rw [hy1.1] at this
    exact this
  have HR : Hid (Calls Try.prog 18 #[.pointer (some ⟨jb, 0, none⟩)] w2 fun e w' => e = .returned (.int .i64 4) ∧ ∃ q, w' = w2.drewN q) := by
    have := room_any w2 h2 (by omega) (by omega)
    rw [hy1.2.1, hy1.2.2.1] at this
    exact this
  clear h2 hb2 hy hy1
  go_wp2_with fail
  refine Calls.mono HL.out ?_
  rintro e w3 ⟨rfl, hw3⟩
  replace hw3 := hw3.symm
  subst hw3
  clear HL
  go_wp2_with fail
  refine Calls.mono HR.out ?_
  rintro e w3 ⟨rfl, hq⟩
  have H3 : Hid (Held (y.es H jb ++ [dmE H (H + 1) H x]) w3 ∧ Below H w w3) := by
    obtain ⟨q, e⟩ := hq
    rw [Hid, e]
    exact ⟨H2.out.1.drewN q, below_dr H2.out.2 q⟩
  clear hq H2 HR
  have hcv := conv_lit w3
  obtain ⟨w4, hw4⟩ : ∃ w4, w4 = w3.alloc (.cells litC 5 (2, 3)) := ⟨_, rfl⟩
  obtain ⟨lb, hlb⟩ : ∃ lb, lb = w3.heap.size := ⟨_, rfl⟩
  have hb4 : Below w3.heap.size w3 w4 := by rw [hw4]; exact (Below.refl _ _).alloc (Nat.le_refl _) _
  have hB4 : w4.heap[lb]? = some (.cells litC 5 (2, 3)) := by rw [hw4, hlb]; exact heap_alloc_new w3 _
  have hlow : H ≤ w3.heap.size := jlow H3.out.1
  have h4 : Held (y.es H jb ++ (dmE H (H + 1) H x :: [litE H lb])) w4 := by
    have h5 : Held (litE H lb :: (y.es H jb ++ [dmE H (H + 1) H x])) w4 := Held.fresh H3.out.1 hb4 ⟨hB4, by omega⟩ (fun k hk => by
      have : k = lb := hk
      omega)
    exact h5.perm (by
      have := List.perm_append_comm (l₁ := [litE H lb]) (l₂ := y.es H jb ++ [dmE H (H + 1) H x])
      simpa using this)
  have hy1 : y.recs.length = 0 ∧ y.next = 0 ∧ y.fin = 4 ∧ y.p = H + 1 := by rw [HY.out]; exact ⟨rfl, rfl, rfl, rfl⟩
  have hx1 : x.off = false ∧ x.armed = false ∧ x.whole = 0 ∧ x.writes = 0 ∧ x.n = 4 := by rw [HX.out]; exact ⟨rfl, rfl, rfl, rfl, rfl⟩
  have HAP : Hid (Calls Try.prog 16 #[.pointer (some ⟨jb, 0, none⟩), .slice (some ⟨lb, 0, none⟩) 2 2] w4 fun e w' => e = .returned (.int .i64 0) ∧ ∃ rv' v', Held ((y.added rv' v' [97, 98]).es H jb ++ (dmE H (H + 1) H (wroteX x 1 0 [97, 98] 1) :: [litE H lb])) w' ∧ Below H w4 w') := by
    have h6 := append_ok (L := H) (jb := jb) (s := H) (y := y) (x := x) (n := 2) (c := 2) (bs := [97, 98]) w4 (by rw [hy1.2.2.2]; exact h4) (fun W _ hR => lit_by (hR.all (litE H lb) (by simp)).1) (by omega) (by omega) hx1.1 hx1.2.1 (by omega) (by omega) (by omega) (by rw [hy1.2.1, hy1.2.2.1]; decide) (by omega) (by omega)
    rw [hy1.1, hy1.2.1, hy1.2.2.2] at h6
    exact h6
  have H4 : Hid (Below H w w4) := H3.out.2.trans (hb4.mono hlow)
  clear hb4 hB4 hlow h4 hy1 hx1 H3
  rw [← hw4] at hcv
  go_wp2_with fail
  try rw [← hw4]
  try rw [← hlb]
  refine Calls.mono HAP.out ?_
  rintro e w5 ⟨rfl, rv', v', h5, hb5⟩
  clear HAP hw4 hlb
  have hy1 : y.recs = [] := by rw [HY.out]; rfl
  obtain ⟨z, hz⟩ : ∃ z, z = y.added rv' v' [97, 98] := ⟨_, rfl⟩
  rw [← hz] at h5
  have hzr : z.recs = [(v', [97, 98])] := by rw [hz]; show y.recs ++ _ = _; rw [hy1]; rfl
  obtain ⟨x', hx'⟩ : ∃ x', x' = wroteX x 1 0 [97, 98] 1 := ⟨_, rfl⟩
  rw [← hx'] at h5
  have hxx : x' = xAb := by rw [hx', HX.out]; rfl
  have hxo : x'.off = false ∧ x'.n = 4 := by rw [hxx]; exact ⟨by kernel_rfl, by kernel_rfl⟩
  have HAT : Hid (Calls Try.prog 32 #[.pointer (some ⟨jb, 0, none⟩), .int .i64 0] w5 fun e w' => ∃ v', e = .returned (.tuple #[v', .int .i64 0]) ∧ By w' v' [97, 98] ∧ Below w5.heap.size w5 w') := by
    refine (at_yes (i := 0) (d := (v', [97, 98])) w5 h5 (by rw [hzr]; rfl) (show 2 ≤ 8192 by decide) (by rw [hzr]; show 1 ≤ 100000; decide)).mono ?_
    rintro e w' ⟨v', e1, e2, e3⟩
    exact ⟨v', e1, own_by e2, e3⟩
  have H5 : Hid (Held (z.es H jb ++ (dmE H (H + 1) H x' :: [litE H lb])) w5 ∧ Below H w w5 ∧ z.recs.length = 1 ∧ x'.off = false ∧ x'.n = 4 ∧ H ≤ w5.heap.size) := ⟨h5, H4.out.trans hb5, by rw [hzr]; rfl, hxo.1, hxo.2, jlow h5⟩
  have HXX : Hid (x' = xAb) := hxx
  clear h5 hb5 hz hzr hx' hxx hxo hy1 H4
  go_wp2_with fail
  refine Calls.mono HAT.out ?_
  rintro e w6 ⟨bv, rfl, hby6, hb6⟩
  clear HAT
  have h6 := H5.out.1.more hb6
  have HRD : Hid (Calls Try.prog 33 #[.pointer (some ⟨H + 1, 0, none⟩), .int .i64 0] w6 fun e w' => ∃ g c, e = .returned (.tuple #[.slice (some ⟨g, 0, none⟩) 512 c, .int .i64 0]) ∧ w'.cell? ⟨g, 0, none⟩ = some (.int .u8 1) ∧ w'.cell? ⟨g, 511, none⟩ = some (.int .u8 2) ∧ w'.cell? ⟨g, 8, none⟩ = some (.int .u8 97) ∧ Below w6.heap.size w6 w') := by
    refine (read_yes 0 w6 (h1d h6) H5.out.2.2.2.1 (by rw [H5.out.2.2.2.2.1]; decide)).mono ?_
    rintro e w' ⟨sv, rfl, e2, e3⟩
    have hget : ∀ j (hj : j < 512) (u : UInt8), (secL x'.b 0).getD j 0 = u → (secL x'.b 0)[j]? = some u := fun j hj u hu => by
      rw [List.getD_eq_getElem?_getD, List.getElem?_eq_getElem (by rw [secL_len]; exact hj)] at hu
      rw [List.getElem?_eq_getElem (by rw [secL_len]; exact hj), ← hu]; rfl
    rcases id e2.2 with ⟨_, e4⟩ | ⟨g, c, cur, e4, _⟩
    · omega
    · subst e4
      have hcell : ∀ j (u : UInt8), (secL x'.b 0)[j]? = some u → w'.cell? ⟨g, j, none⟩ = some (B u) := fun j u hu => by
        have := e2.cells (g := g) rfl j (B u) (by rw [List.getElem?_map, hu]; rfl)
        rwa [addr_add, Nat.zero_add] at this
      have h3 := xAb0
      rw [← HXX.out] at h3
      exact ⟨g, c, rfl, hcell 0 1 (hget 0 (by omega) 1 h3.1), hcell 511 2 (hget 511 (by omega) 2 h3.2.1), hcell 8 97 (hget 8 (by omega) 97 h3.2.2), e3⟩
  have H6 : Hid (Held (z.es H jb ++ (dmE H (H + 1) H x' :: [litE H lb])) w6 ∧ Below H w w6 ∧ By w6 bv [97, 98] ∧ z.recs.length = 1 ∧ H ≤ w6.heap.size) := ⟨h6, H5.out.2.1.trans (hb6.mono H5.out.2.2.2.2.2), hby6, H5.out.2.2.1, jlow h6⟩
  clear hby6 hb6 h6 H5
  go_wp2_with fail
  refine Calls.mono HRD.out ?_
  rintro e w7 ⟨g, c, rfl, s0, s511, s8, hb7⟩
  clear HRD
  have h7 := H6.out.1.more hb7
  have H7 : Hid (Held (z.es H jb ++ (dmE H (H + 1) H x' :: [litE H lb])) w7 ∧ Below H w w7 ∧ By w7 bv [97, 98] ∧ z.recs.length = 1 ∧ H ≤ w7.heap.size) := ⟨h7, H6.out.2.1.trans (hb7.mono H6.out.2.2.2.2), H6.out.2.2.1.keep hb7, H6.out.2.2.2.1, jlow h7⟩
  have hcv7 := conv_lit w7
  obtain ⟨w8, hw8⟩ : ∃ w8, w8 = w7.alloc (.cells litC 5 (2, 3)) := ⟨_, rfl⟩
  obtain ⟨l2, hl2⟩ : ∃ l2, l2 = w7.heap.size := ⟨_, rfl⟩
  have hb8 : Below w7.heap.size w7 w8 := by rw [hw8]; exact (Below.refl _ _).alloc (Nat.le_refl _) _
  have hB8 : w8.heap[l2]? = some (.cells litC 5 (2, 3)) := by rw [hw8, hl2]; exact heap_alloc_new w7 _
  have HSM : Hid (Calls Try.prog 27 #[bv, .slice (some ⟨l2, 0, none⟩) 2 2] w8 fun e w' => e = .returned (.bool true) ∧ w' = w8) := by
    have h9 := same_any w8 (H7.out.2.2.1.keep hb8) (lit_by hB8)
    exact h9
  have HLE : Hid (Calls Try.prog 31 #[.pointer (some ⟨jb, 0, none⟩)] w8 fun e w' => e = .returned (.int .i64 1) ∧ w' = w8) := by
    have h9 := len_any w8 (H7.out.1.more hb8) (by rw [H7.out.2.2.2.1]; decide)
    rw [H7.out.2.2.2.1] at h9
    exact h9
  have t0 : w8.cell? ⟨g, 0, none⟩ = some (.int .u8 1) := (hb8.cell (World.block_lt_of_cell? _ _ s0)).trans s0
  have t511 : w8.cell? ⟨g, 511, none⟩ = some (.int .u8 2) := (hb8.cell (World.block_lt_of_cell? _ _ s511)).trans s511
  have t8 : w8.cell? ⟨g, 8, none⟩ = some (.int .u8 97) := (hb8.cell (World.block_lt_of_cell? _ _ s8)).trans s8
  have HF : Hid (Below H w w8) := H7.out.2.1.trans (hb8.mono H7.out.2.2.2.2)
  obtain ⟨bo, bn, bc, hbv, _⟩ := id H7.out.2.2.1
  subst hbv
  clear s0 s511 s8 hb7 h7 hb8 hB8 H6 H7
  rw [← hw8] at hcv7
  go_wp2_with fail
  try rw [← hw8]
  try rw [← hl2]
  refine Calls.mono HSM.out ?_
  rintro e wa ⟨rfl, hwa⟩
  replace hwa := hwa.symm
  subst hwa
  clear HSM hw8 hl2
  go_wp2_with fail
  refine Calls.mono HLE.out ?_
  rintro e wa ⟨rfl, hwa⟩
  replace hwa := hwa.symm
  subst hwa
  clear HLE
  go_wp2_with fail
  go_ret
  exact ⟨rfl, HF.out⟩
end Go.Proofs.Ytjpdcahodmomgaa
