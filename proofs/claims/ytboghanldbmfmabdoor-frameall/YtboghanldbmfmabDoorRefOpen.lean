import Derived.Test.YtboghanldbmfmabDoorRefSeal
namespace Go.Proofs.YtboghanldbmfmabDoor
open Go.RowKit

theorem refOpen_short (ao : Option Addr) (n cap : Nat) (w : World) (hm : n < 7) :
    Calls Tryd.prog 17 #[.slice ao n cap] w fun e w' => e = .returned (.tuple #[.slice none 0 0, .int .i64 10]) ∧ w' = w := by
  go_enter Tryd.func17, Tryd.ntmps17
  go_wp2
  go_ret2
  exact ⟨rfl, rfl⟩

theorem refOpen_ver (b off m cap : Nat) (u0 : Nat) (w : World) (hm : m ≤ 100000) (hne : ((u0 : Int) != 1) = true)
    (hc : w.cell? ⟨b, off, none⟩ = some (.int .u8 (u0 : Nat))) :
    Calls Tryd.prog 17 #[.slice (some ⟨b, off, none⟩) (m + 7) cap] w fun e w' => e = .returned (.tuple #[.slice none 0 0, .int .i64 11]) ∧ w' = w := by
  go_enter Tryd.func17, Tryd.ntmps17
  go_wp2
  go_ret2
  exact ⟨rfl, rfl⟩

set_option maxHeartbeats 400000 in
theorem refOpen_len (b off m cap : Nat) (u1 u2 told : Nat) (w : World) (hm : m ≤ 100000) (h1 : u1 < 256) (h2 : u2 < 256)
    (hc0 : w.cell? ⟨b, off, none⟩ = some (.int .u8 1)) (hc1 : w.cell? ⟨b, off + 1, none⟩ = some (.int .u8 (u1 : Nat))) (hc2 : w.cell? ⟨b, off + 2, none⟩ = some (.int .u8 (u2 : Nat)))
    (ht : u1 + u2 * 256 = told) (hbad : 4096 < told ∨ told ≠ m) :
    Calls Tryd.prog 17 #[.slice (some ⟨b, off, none⟩) (m + 7) cap] w fun e w' => e = .returned (.tuple #[.slice none 0 0, .int .i64 10]) ∧ Below w.heap.size w w' := by
  have hor : (u1 : Int) + 256 * (u2 : Int) = (told : Int) := by omega
  have htl : told < 65536 := by omega
  clear ht
  by_cases hb : 4096 < told
  · go_enter Tryd.func17, Tryd.ntmps17
    go_wp2
    go_quiet (fail)
    go_wp2
    go_ret2
    exact ⟨rfl, below_drewN (Below.refl _ _) _⟩
  · have hne : (((m : Int) + 7) != ((told : Int) + 7)) = true := by rw [bne_iff_ne]; omega
    clear hbad
    go_enter Tryd.func17, Tryd.ntmps17
    go_wp2
    go_quiet (fail)
    go_wp2
    go_ret2
    exact ⟨rfl, below_drewN (Below.refl _ _) _⟩
theorem join_iff (a b c d S : Nat) (ha : a < 256) (hb : b < 256) (hc : c < 256) (hd : d < 256) (hS : S < 4294967296) :
    joinTo a b c d 4 = S ↔ a = S % 256 ∧ b = S / 256 % 256 ∧ c = S / 65536 % 256 ∧ d = S / 16777216 % 256 := by rw [joinTo4]; omega

set_option maxHeartbeats 1000000 in
theorem refOpen_tail (b off m cap : Nat) (bs : List UInt8) (w : World) (hn : bs.length = m + 7) (hm : m ≤ 4096) (hcap : m + 7 ≤ cap) (hA : At w b off bs) (h0 : bs.getD 0 0 = 1) (ht : told bs = m) (S : Nat) (hS : sumN (bs.take (m + 3)) = S) :
    Calls Tryd.prog 17 #[.slice (some ⟨b, off, none⟩) (m + 7) cap] w fun e w' => ((tailN bs = S ∧ ∃ co c, e = .returned (.tuple #[.slice co m c, .int .i64 0]) ∧ w'.ownsRow w.heap.size 5 1 (.slice co m c) m ((body bs).map B)) ∨ (tailN bs ≠ S ∧ e = .returned (.tuple #[.slice none 0 0, .int .i64 12]))) ∧ Below w.heap.size w w' := by
  have c0 := hA 0 _ (getD_some bs 0 (by omega))
  have c1 := hA 1 _ (getD_some bs 1 (by omega))
  have c2 := hA 2 _ (getD_some bs 2 (by omega))
  rw [h0] at c0
  have c0' : w.cell? ⟨b, off, none⟩ = some (.int .u8 1) := c0
  simp only [B] at c1 c2
  have l1 := byte_lt (bs.getD 1 0)
  have l2 := byte_lt (bs.getD 2 0)
  unfold told at ht
  generalize (bs.getD 1 0).toNat = u1 at *
  generalize (bs.getD 2 0).toNat = u2 at *
  have hor : (u1 : Int) + 256 * (u2 : Int) = (m : Int) := by omega
  have hne : (((m : Int) + 7) != ((m : Int) + 7)) = false := by simp
  clear ht c0 h0
  have hb0 : Below w.heap.size w w := Below.refl _ _
  have hSl : S < 4294967296 := by rw [← hS]; exact sumN_lt _
  have HS : Hid _ := hS
  clear hS
  go_enter Tryd.func17, Tryd.ntmps17
  go_wp2
  go_quiet (fail)
  clear c0' c1 c2 hor hne
  go_wp2_with fail
  have hbq : Below w.heap.size w (w.drewN nq) := below_drewN hb0 nq
  generalize w.drewN nq = w0 at *
  have hAb : At w b (off + 3) (body bs) := by unfold body; exact at_take (at_drop hA 3) _
  have hbl : (body bs).length = m := by simp [body]; omega
  have hz0 := hbq.size
  go_loopw [5, 6] (fun v i wr => ∃ k : Nat, k ≤ m ∧ i = .int .i64 k ∧ wr.ownsRow w.heap.size 5 1 v k (((body bs).take k).map B) ∧ Below w.heap.size w wr) (fun _ i _ => m - (intOf i).toNat)
  case atStart => exact ⟨0, by omega, rfl, World.ownsRow_nil _ _ _ _, hbq⟩
  case round =>
    obtain ⟨k, hk, rfl, hown, hb⟩ := hrel
    by_cases hlt : k < m
    · obtain ⟨u, hu⟩ : ∃ u, (body bs)[k]? = some u := ⟨(body bs)[k]'(by omega), List.getElem?_eq_getElem _⟩
      have hcw := hAb k u hu
      have hc : wr.cell? ⟨b, off + 3 + k, none⟩ = some (B u) := (hb.cell (World.block_lt_of_cell? w _ hcw)).trans hcw
      simp only [B] at hc
      rw [show off + 3 + k = off + (3 + k) from by omega] at hc
      have HT : Hid ((body bs).take (k + 1) = (body bs).take k ++ [u]) := by
        rw [List.take_add_one, hu]; rfl
      clear hu hA hAb hcw
      generalize hX : (body bs).take k = X at *
      have HX : Hid _ := hX
      clear hX
      have hs1 := src_mark wr [u] #[.int .u8 (u.toNat : Int)] (0, 0) rfl
      have hz := hb.size
      have t5 : (0 : Int) ≤ 3 + (k : Int) := by omega
      go_wp2_with (first
        | (at_builtin; go_must (refine wpList_append_bytes rfl _ _ rfl w.heap.size k _ X rfl (hown.alloc _) _ 1 1 [u] rfl rfl (by intro h; cases h) hs1 (by omega) (by simp; omega) ?_))
        | fail)
      intro v1 w1 hown1 hg1
      have hb1 := own_grow hown hb _ hg1
      replace hown1 : w1.ownsRow w.heap.size 5 1 v1 (k + 1) ((X ++ [u]).map B) := by rw [List.map_append]; exact hown1
      rw [← HT.out] at hown1
      clear hown hg1 hs1 hc
      go_wp2
      go_roundw
      case rel => exact ⟨k + 1, by omega, by go_num, hown1, hb1⟩
      case measure => simp [intOf]; omega
    · obtain rfl : k = m := by omega
      rw [List.take_of_length_le (by omega)] at hown
      have hA3 : At wr b off (bs.take (k + 3)) := fun j u hu => by
        have := at_take hA (k + 3) j u hu
        exact (hb.cell (World.block_lt_of_cell? w _ this)).trans this
      have hl3 : (bs.take (k + 3)).length = k + 3 := by simp; omega
      have hsl := run_to b off (k + 7) cap (k + 3) (3 + (k : Int)) (by omega) (by omega)
      have t5 : (0 : Int) ≤ 3 + (k : Int) := by omega
      have t6 : IntKind.i64.wrap (3 + (k : Int)) = 3 + (k : Int) := by rw [IntKind.wrap_i64]; omega
      go_wp2_with fail
      refine (refSum_any b off (k + 3) cap (bs.take (k + 3)) _ hl3 (by omega) hA3).mono ?_
      rintro e w2 ⟨rfl, hw2⟩
      subst w2
      rw [HS.out]
      clear hA3 hl3 hsl
      obtain ⟨co, c, rfl, hc1, _, _, _⟩ := own_src hown
      have HO : Hid _ := hown
      clear hown
      have hAr : At wr b off bs := fun j u hu => by
        have := hA j u hu
        exact (hb.cell (World.block_lt_of_cell? w _ this)).trans this
      have htail : tailN bs = joinTo (bs.getD (k + 3) 0).toNat (bs.getD (k + 4) 0).toNat (bs.getD (k + 5) 0).toNat (bs.getD (k + 6) 0).toNat 4 := by
        unfold tailN
        rw [hn, show k + 7 - 4 = k + 3 from by omega, show k + 7 - 3 = k + 4 from by omega, show k + 7 - 2 = k + 5 from by omega, show k + 7 - 1 = k + 6 from by omega]
      have hiff := join_iff (bs.getD (k + 3) 0).toNat (bs.getD (k + 4) 0).toNat (bs.getD (k + 5) 0).toNat (bs.getD (k + 6) 0).toNat S (byte_lt _) (byte_lt _) (byte_lt _) (byte_lt _) hSl
      rw [← htail] at hiff
      have HI : Hid _ := hiff
      clear hiff htail hA hAb t6
      go_wp2_with fail
      go_loopw [7, 8] (fun t i wx => ∃ q : Nat, q ≤ 4 ∧ i = .int .i64 q ∧ t = .int .i64 (S / 256 ^ q : Nat) ∧ (∀ j, j < q → (bs.getD (k + 3 + j) 0).toNat = S / 256 ^ j % 256) ∧ ∃ z, wx = wr.drewN z) (fun _ i _ => 4 - (intOf i).toNat)
      case atStart => exact ⟨0, by omega, rfl, by simp, (fun j h => by omega), 0, rfl⟩
      case round =>
        obtain ⟨q, hq, rfl, rfl, hall, z, rfl⟩ := hrel
        by_cases hq4 : q < 4
        · have y := hAr (k + 3 + q) _ (getD_some bs (k + 3 + q) (by omega))
          simp only [B] at y
          rw [show off + (k + 3 + q) = off + (3 + k + q) from by omega] at y
          have HD : Hid (S / 256 ^ (q + 1) = S / 256 ^ q / 256) := by show _ = _; rw [Nat.pow_succ, Nat.div_div_eq_div_mul]
          have hTl : S / 256 ^ q < 4294967296 := Nat.lt_of_le_of_lt (Nat.div_le_self _ _) hSl
          have t7 : (0 : Int) ≤ 3 + (k : Int) + (q : Int) := by omega
          have hyl := byte_lt (bs.getD (k + 3 + q) 0)
          by_cases heq : (bs.getD (k + 3 + q) 0).toNat = S / 256 ^ q % 256
          · have hall2 : ∀ j, j < q + 1 → (bs.getD (k + 3 + j) 0).toNat = S / 256 ^ j % 256 := fun j hj => by
              by_cases hjq : j = q
              · subst hjq; exact heq
              · exact hall j (by omega)
            have HA2 : Hid _ := hall2
            have hb1 : ((((bs.getD (k + 3 + q) 0).toNat : Nat) : Int) != ((S / 256 ^ q : Nat) : Int) % 256) = false := by rw [bne_eq_false_iff_eq]; omega
            clear hall hall2 heq hAr
            generalize (bs.getD (k + 3 + q) 0).toNat = yv at *
            generalize S / 256 ^ q = T at *
            go_wp2
            go_roundw
            case rel => exact ⟨q + 1, by omega, by go_num, by rw [HD.out]; go_num, HA2.out, _, rfl⟩
            case measure => simp [intOf]; omega
          · have hbad : tailN bs ≠ S := fun h => by
              obtain ⟨e0, e1, e2, e3⟩ := HI.out.1 h
              rcases (show q = 0 ∨ q = 1 ∨ q = 2 ∨ q = 3 from by omega) with rfl | rfl | rfl | rfl
              · exact heq (by simpa using e0)
              · exact heq (by simpa using e1)
              · exact heq (by simpa using e2)
              · exact heq (by simpa using e3)
            have HBad : Hid _ := hbad
            have hb1 : ((((bs.getD (k + 3 + q) 0).toNat : Nat) : Int) != ((S / 256 ^ q : Nat) : Int) % 256) = true := by rw [bne_iff_ne]; omega
            clear hall heq hbad hAr
            generalize (bs.getD (k + 3 + q) 0).toNat = yv at *
            generalize S / 256 ^ q = T at *
            go_wp2
            go_ret2
            exact ⟨.inr ⟨HBad.out, rfl⟩, below_drewN hb _⟩
        · obtain rfl : q = 4 := by omega
          have hgood : tailN bs = S := HI.out.2 ⟨by simpa using hall 0 (by omega), by simpa using hall 1 (by omega), by simpa using hall 2 (by omega), by simpa using hall 3 (by omega)⟩
          have HG : Hid _ := hgood
          clear hall hgood hAr
          go_wp2
          go_ret2
          exact ⟨.inl ⟨HG.out, co, c, rfl, HO.out⟩, below_drewN hb _⟩
end Go.Proofs.YtboghanldbmfmabDoor
