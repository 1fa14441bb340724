import Derived.Test.YtboghanldbmfmabDoorRefSum
import Derived.Test.YtboghanldbmfmabDoorBack
namespace Go.Proofs.YtboghanldbmfmabDoor
open Go.RowKit

theorem refSeal_long (ao : Option Addr) (n cap : Nat) (w : World) (hm : 4096 < n) (hx : n ≤ 9223372036854775807) :
    Calls Tryd.prog 10 #[.slice ao n cap] w fun e w' => e = .returned (.tuple #[.slice none 0 0, .int .i64 2]) ∧ w' = w := by
  go_enter Tryd.func10, Tryd.ntmps10
  go_wp2
  go_ret2
  exact ⟨rfl, rfl⟩

theorem own_grow {w0 w w' : World} {v : Value} {k : Nat} {xs : List Value} (hown : w.ownsRow w0.heap.size 5 1 v k xs) (hb : Below w0.heap.size w0 w) (o : Obj) (hg : (w.alloc o).grownBy w' v.ownBlock) : Below w0.heap.size w0 w' :=
  (hb.alloc hb.size o).grown hg (by have := hb.size; simp; omega) (fun k h => (hown.lt k h).1)

theorem le4_take (s k : Nat) (h : k < 4) : (le4 s).take (k + 1) = (le4 s).take k ++ [byteAt s k] := by
  rcases (show k = 0 ∨ k = 1 ∨ k = 2 ∨ k = 3 from by omega) with rfl | rfl | rfl | rfl <;> rfl

set_option maxHeartbeats 800000 in
theorem refSeal_any (ao : Option Addr) (n cap : Nat) (ps : List UInt8) (w : World) (hn : ps.length = n) (hm : n ≤ 4096) (hsrc : Src w ao ps) :
    Calls Tryd.prog 10 #[.slice ao n cap] w fun e w' => ∃ co c, e = .returned (.tuple #[.slice co (n + 7) c, .int .i64 0]) ∧ w'.ownsRow w.heap.size 5 1 (.slice co (n + 7) c) (n + 7) ((frameOf ps).map B) ∧ Below w.heap.size w w' := by
  go_enter Tryd.func10, Tryd.ntmps10
  go_wp2_with fail
  have hown0 : (w.alloc (.cells #[.int .u8 1, .int .u8 ((n : Int) % 256), .int .u8 ((n : Int) / 256)] 5)).ownsRow w.heap.size 5 1 (.slice (some ⟨w.heap.size, 0, none⟩) 3 3) (3 + 0) ((1 :: byteAt n 0 :: byteAt n 1 :: ps.take 0).map B) := by
    have e1 : Value.int .u8 ((n : Int) % 256) = B (byteAt n 0) := by rw [B, byteAt_nat]; exact val_u8 (by omega)
    have e2 : Value.int .u8 ((n : Int) / 256) = B (byteAt n 1) := by rw [B, byteAt_nat]; exact val_u8 (by omega)
    rw [e1, e2]
    exact ⟨rfl, .inr ⟨w.heap.size, 3, _, rfl, Nat.le_refl _, heap_alloc_new w _, Nat.le_refl _, by unfold maxLen; omega, rfl, rfl⟩⟩
  have hb0 : Below w.heap.size w (w.alloc (.cells #[.int .u8 1, .int .u8 ((n : Int) % 256), .int .u8 ((n : Int) / 256)] 5)) := (Below.refl _ _).alloc (Nat.le_refl _) _
  generalize w.alloc (.cells #[.int .u8 1, .int .u8 ((n : Int) % 256), .int .u8 ((n : Int) / 256)] 5) = w0 at *
  go_loopw [5, 6] (fun v i wr => ∃ k : Nat, k ≤ n ∧ i = .int .i64 k ∧ wr.ownsRow w.heap.size 5 1 v (3 + k) ((1 :: byteAt n 0 :: byteAt n 1 :: ps.take k).map B) ∧ Below w.heap.size w wr) (fun _ i _ => n - (intOf i).toNat)
  case atStart => exact ⟨0, by omega, rfl, hown0, hb0⟩
  case round =>
    obtain ⟨k, hk, rfl, hown, hb⟩ := hrel
    clear hown0 hb0
    by_cases hlt : k < n
    · obtain ⟨b, off, rfl, hA⟩ := src_at (src_keep hsrc hb) (by omega)
      obtain ⟨u, hu⟩ : ∃ u, ps[k]? = some u := ⟨ps[k]'(by omega), by simp [List.getElem?_eq_getElem (by omega : k < ps.length)]⟩
      have hc := hA k u hu
      simp only [B] at hc
      have HT : Hid ((1 :: byteAt n 0 :: byteAt n 1 :: ps.take (k + 1)) = (1 :: byteAt n 0 :: byteAt n 1 :: ps.take k) ++ [u]) := by
        rw [List.take_add_one, hu]; rfl
      clear hu hA hsrc
      generalize hX : (1 :: byteAt n 0 :: byteAt n 1 :: ps.take k) = X at *
      have HX : Hid _ := hX
      clear hX
      have hs1 := src_mark wr [u] #[.int .u8 (u.toNat : Int)] (0, 0) rfl
      have hz := hb.size
      go_wp2_with (first
        | (at_builtin; go_must (refine wpList_append_bytes rfl _ _ rfl w.heap.size (3 + k) _ X rfl (hown.alloc _) _ 1 1 [u] rfl rfl (by intro h; cases h) hs1 (by omega) (by simp; omega) ?_))
        | fail)
      intro v1 w1 hown1 hg1
      have hb1 := own_grow hown hb _ hg1
      replace hown1 : w1.ownsRow w.heap.size 5 1 v1 (3 + k + 1) ((X ++ [u]).map B) := by rw [List.map_append]; exact hown1
      rw [← HT.out] at hown1
      clear hown hg1 hs1 hc
      go_wp2
      go_roundw
      case rel => exact ⟨k + 1, by omega, by go_num, by rw [show 3 + (k + 1) = 3 + k + 1 from by omega]; exact hown1, hb1⟩
      case measure => simp [intOf]; omega
    · have hkn : ps.take k = ps := List.take_of_length_le (by omega)
      have ehd : (1 :: byteAt n 0 :: byteAt n 1 :: ps.take k) = hdr ps := by rw [hkn, hdr, hn]
      rw [ehd] at hown
      obtain ⟨co, c, rfl, hc1, _, hs1, hl1⟩ := own_src hown
      obtain ⟨b, off, rfl, hA⟩ := src_at hs1 (by omega)
      have hl := hdr_len ps
      clear ehd hkn hs1
      go_wp2_with fail
      refine (refSum_any b off (3 + k) c (hdr ps) _ hl1 (by omega) hA).mono ?_
      rintro e w2 ⟨rfl, rfl⟩
      have hSl := sumN_lt (hdr ps)
      have HF : Hid (frameOf ps = hdr ps ++ (le4 (sumN (hdr ps))).take 4) := rfl
      generalize sumN (hdr ps) = S at *
      clear hA hsrc
      have hown' : w2.ownsRow w.heap.size 5 1 (.slice (some ⟨b, off, none⟩) (3 + k) c) (n + 3 + 0) ((hdr ps ++ (le4 S).take 0).map B) := by
        rw [List.take_zero, List.append_nil, show n + 3 + 0 = 3 + k from by omega]; exact hown
      clear hown
      go_wp2_with fail
      go_loopw [5, 7, 8] (fun v t i wr => ∃ q : Nat, q ≤ 4 ∧ i = .int .i64 q ∧ t = .int .i64 (S / 256 ^ q : Nat) ∧ wr.ownsRow w.heap.size 5 1 v (n + 3 + q) ((hdr ps ++ (le4 S).take q).map B) ∧ Below w.heap.size w wr) (fun _ _ i _ => 4 - (intOf i).toNat)
      case atStart => exact ⟨0, by omega, rfl, by simp, hown', hb⟩
      case round =>
        obtain ⟨q, hq, rfl, rfl, hown2, hb2⟩ := hrel
        clear hown' hb
        by_cases hq4 : q < 4
        · have HT : Hid ((hdr ps ++ (le4 S).take (q + 1)) = (hdr ps ++ (le4 S).take q) ++ [byteAt S q]) := by
            show _ = _
            rw [le4_take S q hq4, List.append_assoc]
          have HD : Hid (S / 256 ^ (q + 1) = S / 256 ^ q / 256) := by show _ = _; rw [Nat.pow_succ, Nat.div_div_eq_div_mul]
          have hTl : S / 256 ^ q < 4294967296 := Nat.lt_of_le_of_lt (Nat.div_le_self _ _) hSl
          have hbv := byteAt_nat S q
          have hs3 := src_mark wr [byteAt S q] #[.int .u8 (((S / 256 ^ q : Nat) : Int) % 256)] (0, 0) (by
            simp only [List.map_cons, List.map_nil, B, hbv]
            rw [show ((S / 256 ^ q : Nat) : Int) % 256 = ((S / 256 ^ q % 256 : Nat) : Int) from by omega])
          generalize hdr ps ++ (le4 S).take q = X at *
          have hz2 := hb2.size
          clear hbv
          generalize S / 256 ^ q = T at *
          go_wp2_with (first
            | (at_builtin; go_must (refine wpList_append_bytes rfl _ _ rfl w.heap.size (n + 3 + q) _ X rfl (hown2.alloc _) _ 1 1 [byteAt S q] rfl rfl (by intro h; cases h) hs3 (by omega) (by simp; omega) ?_))
            | fail)
          intro v3 w3 hown3 hg3
          have hb3 := own_grow hown2 hb2 _ hg3
          replace hown3 : w3.ownsRow w.heap.size 5 1 v3 (n + 3 + q + 1) ((X ++ [byteAt S q]).map B) := by rw [List.map_append]; exact hown3
          rw [← HT.out] at hown3
          clear hown2 hg3 hs3 hb2
          go_wp2
          go_roundw
          case rel => exact ⟨q + 1, by omega, by go_num, by rw [HD.out]; go_num, hown3, hb3⟩
          case measure => simp [intOf]; omega
        · have hq4' : q = 4 := by omega
          subst hq4'
          rw [← HF.out] at hown2
          obtain ⟨co, c3, rfl, hc3, _, hs3, hl3⟩ := own_src hown2
          have HO : Hid _ := hown2
          clear hown2
          go_wp2
          go_ret2
          exact ⟨co, c3, rfl, HO.out, hb2⟩
end Go.Proofs.YtboghanldbmfmabDoor
