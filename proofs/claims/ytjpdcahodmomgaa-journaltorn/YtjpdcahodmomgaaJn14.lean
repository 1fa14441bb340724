import Derived.Test.YtjpdcahodmomgaaJn13
namespace Go.Proofs.Ytjpdcahodmomgaa
open Go.RowKit Go.PlainAid
set_option linter.unusedVariables false
set_option linter.unusedSimpArgs false
/-- A journal of records of one length. -/
structure JF (L jb p s S n i : Nat) (w : World) : Prop where
  h : ∃ (y : JV) (x : DV), Held (y.es L jb ++ [dmE L p s x]) w ∧ y.p = p ∧ y.fin = S ∧ y.recs.length = i ∧ y.next = kS n * i ∧ x.off = false ∧ x.armed = false ∧ x.whole = 0 ∧ x.writes = kS n * i ∧ x.n = S
theorem JF.app {L jb p s S n i : Nat} {w : World} (h : JF L jb p s S n i w) (hn : n ≤ 8192) (hS : S ≤ 60) (hi : kS n * (i + 1) ≤ S) {R : Array Value} (hR : R.size = n) (hz : ∀ j, j < n → R[j]? = some (B 0)) :
    Calls Try.prog 16 #[.pointer (some ⟨jb, 0, none⟩), .slice (some ⟨w.heap.size, 0, none⟩) n n] (w.alloc (.cells R 5)) fun e w' => e = .returned (.int .i64 0) ∧ JF L jb p s S n (i + 1) w' ∧ Below L w w' := by
  obtain ⟨y, x, h1, e1, e2, e3, e4, e5, e6, e7, e8, e9⟩ := h.h
  subst e1
  have hb : Below w.heap.size w (w.alloc (.cells R 5)) := (Below.refl _ _).alloc (Nat.le_refl _) _
  have hL := jlow h1
  have hk := kS_pos n
  have hki : i ≤ kS n * i := Nat.le_mul_of_pos_left i hk
  have hkm : kS n * (i + 1) = kS n * i + kS n := by rw [Nat.mul_add, Nat.mul_one]
  have ho : (w.alloc (.cells R 5)).ownsRow L 5 1 (.slice (some ⟨w.heap.size, 0, none⟩) n n) n ((List.replicate n (0 : UInt8)).map B) := own_blk (heap_alloc_new w _) hL hR (by unfold maxLen; omega) (fun j hj => by rw [hz j hj, List.getD_eq_getElem?_getD, List.getElem?_replicate, if_pos hj]; rfl) (List.length_replicate ..)
  have h2 : Held (y.es L jb ++ (dmE L y.p s x :: [datE L (.slice (some ⟨w.heap.size, 0, none⟩) n n, List.replicate n 0)])) (w.alloc (.cells R 5)) := by
    have h3 : Held (datE L (.slice (some ⟨w.heap.size, 0, none⟩) n n, List.replicate n 0) :: (y.es L jb ++ [dmE L y.p s x])) (w.alloc (.cells R 5)) := Held.fresh h1 hb (show _ from by show World.ownsRow _ L 5 1 _ (List.replicate n (0 : UInt8)).length _; rw [List.length_replicate]; exact ho) (fun k hk => by
      have : w.heap.size = k := by simpa [datE, rowE, Value.ownBlock] using hk
      omega)
    exact h3.perm (by
      have := List.perm_append_comm (l₁ := [datE L (.slice (some ⟨w.heap.size, 0, none⟩) n n, List.replicate n 0)]) (l₂ := y.es L jb ++ [dmE L y.p s x])
      simpa using this)
  refine (append_ok (R := [datE L (.slice (some ⟨w.heap.size, 0, none⟩) n n, List.replicate n 0)]) (bs := List.replicate n 0) (w.alloc (.cells R 5)) h2 (fun W _ hR => own_by (hR.all (datE L (.slice (some ⟨w.heap.size, 0, none⟩) n n, List.replicate n 0)) (by simp))) (Nat.le_refl _) hn e5 e6 (by omega) (by omega) (by omega) (by omega) (by omega) (by omega)).mono ?_
  rintro e w' ⟨f1, rv', v', f2, f3⟩
  have hw := wroteX_facts x (y.recs.length + 1) y.next (List.replicate n 0) e6 (kS n)
  refine ⟨f1, ⟨_, _, Held.subl f2 (List.Sublist.append (List.Sublist.refl _) (List.Sublist.cons_cons _ (List.nil_sublist _))), rfl, e2, ?_, ?_, by rw [hw.1]; exact e5, hw.2.2.1, by rw [hw.2.2.2.1]; exact e7, ?_, by rw [hw.2.1]; exact e9⟩, (hb.mono hL).trans f3⟩
  · show (y.recs ++ [(v', List.replicate n 0)]).length = i + 1
    rw [List.length_append, e3]; rfl
  · show y.next + kS (List.replicate n (0 : UInt8)).length = kS n * (i + 1)
    rw [List.length_replicate, e4]; omega
  · rw [hw.2.2.2.2, e8]; omega
theorem JF.full {L jb p s S n i : Nat} {w : World} (h : JF L jb p s S n i w) (hn : n ≤ 8192) (hS : S ≤ 60) (hi : S < kS n * (i + 1)) (hi2 : kS n * i ≤ S) {R : Array Value} (hR : R.size = n) (hz : ∀ j, j < n → R[j]? = some (B 0)) :
    Calls Try.prog 16 #[.pointer (some ⟨jb, 0, none⟩), .slice (some ⟨w.heap.size, 0, none⟩) n n] (w.alloc (.cells R 5)) fun e w' => e = .returned (.int .i64 211) ∧ JF L jb p s S n i w' ∧ Below L w w' := by
  obtain ⟨y, x, h1, e1, e2, e3, e4, e5, e6, e7, e8, e9⟩ := h.h
  subst e1
  have hb : Below w.heap.size w (w.alloc (.cells R 5)) := (Below.refl _ _).alloc (Nat.le_refl _) _
  have hL := jlow h1
  have hk := kS_pos n
  have hki : i ≤ kS n * i := Nat.le_mul_of_pos_left i hk
  have hkm : kS n * (i + 1) = kS n * i + kS n := by rw [Nat.mul_add, Nat.mul_one]
  have ho : (w.alloc (.cells R 5)).ownsRow L 5 1 (.slice (some ⟨w.heap.size, 0, none⟩) n n) n ((List.replicate n (0 : UInt8)).map B) := own_blk (heap_alloc_new w _) hL hR (by unfold maxLen; omega) (fun j hj => by rw [hz j hj, List.getD_eq_getElem?_getD, List.getElem?_replicate, if_pos hj]; rfl) (List.length_replicate ..)
  have h2 : Held (y.es L jb ++ (dmE L y.p s x :: [datE L (.slice (some ⟨w.heap.size, 0, none⟩) n n, List.replicate n 0)])) (w.alloc (.cells R 5)) := by
    have h3 : Held (datE L (.slice (some ⟨w.heap.size, 0, none⟩) n n, List.replicate n 0) :: (y.es L jb ++ [dmE L y.p s x])) (w.alloc (.cells R 5)) := Held.fresh h1 hb (show _ from by show World.ownsRow _ L 5 1 _ (List.replicate n (0 : UInt8)).length _; rw [List.length_replicate]; exact ho) (fun k hk => by
      have : w.heap.size = k := by simpa [datE, rowE, Value.ownBlock] using hk
      omega)
    exact h3.perm (by
      have := List.perm_append_comm (l₁ := [datE L (.slice (some ⟨w.heap.size, 0, none⟩) n n, List.replicate n 0)]) (l₂ := y.es L jb ++ [dmE L y.p s x])
      simpa using this)
  refine (append_space (R := [datE L (.slice (some ⟨w.heap.size, 0, none⟩) n n, List.replicate n 0)]) (bs := List.replicate n 0) (w.alloc (.cells R 5)) h2 (fun W _ hR => own_by (hR.all (datE L (.slice (some ⟨w.heap.size, 0, none⟩) n n, List.replicate n 0)) (by simp))) (Nat.le_refl _) hn e5 e6 (by omega) (by omega) (by omega) (by omega) (by omega) (by omega) (by omega)).mono ?_
  rintro e w' ⟨f1, f2, f3⟩
  exact ⟨f1, ⟨y, x, Held.subl f2 (List.Sublist.append (List.Sublist.refl _) (List.Sublist.cons_cons _ (List.nil_sublist _))), rfl, e2, e3, e4, e5, e6, e7, e8, e9⟩, (hb.mono hL).trans f3⟩
theorem JF.room {L jb p s S n i : Nat} {w : World} (h : JF L jb p s S n i w) (hS : S ≤ 60) (hi : kS n * i ≤ S) : Calls Try.prog 18 #[.pointer (some ⟨jb, 0, none⟩)] w fun e w' => e = .returned (.int .i64 ((S - kS n * i : Nat) : Int)) ∧ ∃ q, w' = w.drewN q := by
  obtain ⟨y, x, h1, e1, e2, e3, e4, e5, e6, e7, e8, e9⟩ := h.h
  have := room_any w h1 (by omega) (by omega)
  rw [e2, e4] at this
  exact this
set_option maxRecDepth 100000 in
set_option maxHeartbeats 3200000 in
theorem spaces_any {L0 S n m M : Nat} {lo : Option Addr} {lc : Nat} (w : World) (hrow : w.ownsRow L0 3 1 (.slice lo M lc) M ((List.replicate M (n : Int)).map I)) (hS1 : 1 ≤ S) (hS : S ≤ 60) (hn : n ≤ 8192) (hm : kS n * m ≤ S) (hM : M = m ∨ (M = m + 1 ∧ S < kS n * (m + 1))) (zz rr : Int) (hzz : zz = if M ≤ m then 0 else 211) (hrr : rr = ((S - kS n * m : Nat) : Int)) :
    Calls Try.prog 11 #[.int .i64 (S : Int), .slice lo M lc] w fun e w' => e = .returned (.tuple #[.int .i64 rr, .int .i64 zz, .bool true]) ∧ Below w.heap.size w w' := by
  have HZZ : Hid (zz = (if M ≤ m then 0 else 211) ∧ rr = ((S - kS n * m : Nat) : Int)) := ⟨hzz, hrr⟩
  clear hzz hrr
  have hMb : M ≤ 100 := by
    have := kS_pos n
    have : m ≤ kS n * m := Nat.le_mul_of_pos_left m this
    omega
  obtain ⟨H, hH⟩ : ∃ H, H = w.heap.size := ⟨_, rfl⟩
  have HRW : Hid (∀ W, Below H w W → ∀ i, i < M → ∃ g o, lo = some ⟨g, o, none⟩ ∧ W.cell? ⟨g, o + i, none⟩ = some (.int .i64 (n : Int))) := fun W hW i hi => by
    have h1 : W.ownsRow L0 3 1 (.slice lo M lc) M ((List.replicate M (n : Int)).map I) := ownsRow_same hrow (fun g hg => hW.block g (by rw [hH]; exact (ownsRow_lt hrow hg).2))
    obtain ⟨g, o, c, e, hc⟩ := tail_at (tail_own h1) (i := i) (u := I (n : Int)) (by rw [List.getElem?_map, List.getElem?_replicate, if_pos hi]; rfl)
    cases e
    exact ⟨g, o, rfl, hc⟩
  have HN : Hid (Calls Try.prog 13 #[.int .i64 (S : Int)] w fun e w' => e = .returned (.tuple #[.pointer (some ⟨H + 1, 0, none⟩), .int .i64 0]) ∧ Held [dmE H (H + 1) H (fresh S)] w' ∧ Below H w w' ∧ H ≤ w'.heap.size) := by
    rw [hH]
    refine (new_yes S w (by omega)).mono ?_
    rintro e w' ⟨h1, h2, h3⟩
    exact ⟨h1, held_new w' _ _ _ h2, h3, h3.size⟩
  have HHH : Hid (H = w.heap.size) := hH
  have HM : Hid (M = m ∨ (M = m + 1 ∧ S < kS n * (m + 1))) := hM
  have HB : Hid (kS n * m ≤ S ∧ 1 ≤ S ∧ S ≤ 60 ∧ n ≤ 8192) := ⟨hm, hS1, hS, hn⟩
  rw [← hH]
  clear hrow hH hM hm hS1
  go_enter Try.func11, Try.ntmps11
  go_wp2_with fail
  refine Calls.mono HN.out ?_
  rintro e w1 ⟨rfl, h1, hb1, hs1⟩
  clear HN
  have HO : Hid (Calls Try.prog 14 #[.pointer (some ⟨H + 1, 0, none⟩)] w1 fun e w' => ∃ jb, e = .returned (.tuple #[.pointer (some ⟨jb, 0, none⟩), .int .i64 0]) ∧ JF H jb (H + 1) H S n 0 w' ∧ Below H w w') := by
    refine (open_fresh w1 h1 HB.out.2.1 (by omega)).mono ?_
    rintro e w' ⟨jb, e1, e2, e3⟩
    exact ⟨jb, e1, ⟨_, _, e2, rfl, rfl, rfl, rfl, rfl, rfl, rfl, rfl, rfl⟩, hb1.trans (e3.mono hs1)⟩
  clear h1 hb1 hs1
  go_wp2_with fail
  refine Calls.mono HO.out ?_
  rintro e w2 ⟨jb, rfl, h2, hb2⟩
  clear HO
  have H2 : Hid (JF H jb (H + 1) H S n 0 w2 ∧ Below H w w2) := ⟨h2, hb2⟩
  clear h2 hb2
  go_wp2_with fail
  go_loopw [11, 12] (fun s11 s12 wr => ∃ i : Nat, i ≤ M ∧ s12 = .int .i64 (i : Int) ∧ s11 = .int .i64 (if i ≤ m then 0 else 211) ∧ JF H jb (H + 1) H S n (min i m) wr ∧ Below H w wr) (fun _ s12 _ => M - (intOf s12).toNat)
  case atStart => exact ⟨0, Nat.zero_le _, rfl, by simp, by rw [Nat.zero_min]; exact H2.out.1, H2.out.2⟩
  case round =>
    clear H2
    obtain ⟨i, hi, rfl, rfl, hJ, hb⟩ := hrel
    by_cases hlt : i < M
    · obtain ⟨g, o, e1, hc⟩ := HRW.out wr hb i hlt
      subst e1
      obtain ⟨R, hmk, hRs, hRa⟩ := mk_bytes n (by omega) wr
      have HAP : Hid (Calls Try.prog 16 #[.pointer (some ⟨jb, 0, none⟩), .slice (some ⟨wr.heap.size, 0, none⟩) n n] (wr.alloc (.cells R 5)) fun e w' => e = .returned (.int .i64 (if i + 1 ≤ m then 0 else 211)) ∧ JF H jb (H + 1) H S n (min (i + 1) m) w' ∧ Below H w w') := by
        by_cases him : i + 1 ≤ m
        · rw [if_pos him, Nat.min_eq_left him]
          rw [Nat.min_eq_left (by omega)] at hJ
          refine (hJ.app hn hS (Nat.le_trans (Nat.mul_le_mul_left _ him) HB.out.1) hRs hRa).mono ?_
          rintro e w' ⟨f1, f2, f3⟩
          exact ⟨f1, f2, hb.trans f3⟩
        · have him2 : i = m := by have := HM.out; omega
          rw [if_neg him, Nat.min_eq_right (by omega)]
          rw [Nat.min_eq_right (by omega)] at hJ
          refine (hJ.full hn hS (by have := HM.out; rcases this with h9 | h9; omega; exact h9.2) HB.out.1 hRs hRa).mono ?_
          rintro e w' ⟨f1, f2, f3⟩
          exact ⟨f1, f2, hb.trans f3⟩
      obtain ⟨z1, hz1⟩ : ∃ z1 : Int, z1 = if i + 1 ≤ m then 0 else 211 := ⟨_, rfl⟩
      rw [← hz1] at HAP
      have HZ : Hid (z1 = if i + 1 ≤ m then 0 else 211) := hz1
      clear hz1 hRs hRa hJ hb
      generalize (if i ≤ m then (0 : Int) else 211) = z0
      go_wp2_with fail
      refine Calls.mono HAP.out ?_
      rintro e w3 ⟨rfl, hJ3, hb3⟩
      have H3 : Hid (JF H jb (H + 1) H S n (min (i + 1) m) w3 ∧ Below H w w3) := ⟨hJ3, hb3⟩
      clear HAP hJ3 hb3 hmk hc
      go_wp2_with fail
      go_roundw
      case rel => exact ⟨i + 1, by omega, by go_num, by rw [HZ.out], H3.out.1, H3.out.2⟩
      case measure => simp [intOf]; omega
    · have hin : ¬ ((i : Int) < (M : Int)) := by omega
      have hiM : i = M := by omega
      rw [hiM] at hJ
      have hmin : min M m = m := by have := HM.out; omega
      rw [hmin] at hJ
      have HR : Hid _ := hJ.room hS HB.out.1
      have HBB : Hid (Below H w wr) := hb
      obtain ⟨z1, hz1⟩ : ∃ z1 : Int, z1 = if M ≤ m then 0 else 211 := ⟨_, rfl⟩
      have HZ : Hid ((if i ≤ m then (0 : Int) else 211) = z1 ∧ z1 = if M ≤ m then 0 else 211) := ⟨by rw [hz1, hiM], hz1⟩
      rw [HZ.out.1]
      obtain ⟨rm, hrm⟩ : ∃ rm : Int, rm = ((S - kS n * m : Nat) : Int) := ⟨_, rfl⟩
      have HRM : Hid (rm = ((S - kS n * m : Nat) : Int)) := hrm
      rw [← hrm] at HR
      clear hJ hb hiM hmin hz1 hrm
      go_wp2_with fail
      refine Calls.mono HR.out ?_
      rintro e w4 ⟨rfl, hq⟩
      have HF : Hid (Below H w w4) := by
        obtain ⟨q, e⟩ := hq
        rw [Hid, e]
        exact below_dr HBB.out q
      clear HR hq HBB
      go_wp2_with fail
      go_ret3
      refine ⟨?_, HF.out⟩
      show Ending.returned (.tuple #[.int .i64 rm, .int .i64 z1, .bool true]) = _
      rw [HRM.out, HZ.out.2, HZZ.out.1, HZZ.out.2]
end Go.Proofs.Ytjpdcahodmomgaa
