import Derived.Test.YtadfmnlkfcigoaaStd
import Derived.Test.YtadfmnlkfcigoaaJoinG
namespace Go.Proofs.Ytadfmnlkfcigoaa
open Go.RowKit Go.PlainAid
set_option linter.unusedVariables false
set_option linter.unusedSimpArgs false
theorem sortedOf (l : List (Int × Int)) (hn : l.Nodup) : ∃ S : List (Int × Int), S.Perm l ∧ S.Pairwise (fun a b => ltC a b = true) := by
  refine ⟨l.mergeSort (fun a b => !ltC b a), List.mergeSort_perm _ _, strictC ?_ ((List.mergeSort_perm _ _).nodup_iff.2 hn)⟩
  have := List.pairwise_mergeSort (le := fun a b : Int × Int => !ltC b a) (fun a b c h1 h2 => by
    simp only [Bool.not_eq_true', ltC_no] at h1 h2 ⊢
    omega) (fun a b => by
    cases h : ltC b a
    · simp
    · have := ltC_asy b a h
      simp [this]) l
  exact this.imp (fun {a b} h => by simpa using h)
set_option maxRecDepth 100000 in
theorem slot_any (i n : Int) (w : World) (h1 : 1 ≤ n) (h2 : n ≤ 1000) (hi : In64 i) :
    Calls Try.prog 9 #[.int .i64 i, .int .i64 n] w fun e w' => ∃ s : Int, 0 ≤ s ∧ s < n ∧ e = .returned (.int .i64 s) ∧ w' = w := by
  have b1 := Int.tmod_lt_of_pos i (show 0 < n by omega)
  have b2 := Int.lt_tmod_of_pos i (show 0 < n by omega)
  have hn0 : n ≠ 0 := by omega
  have hw : IntKind.i64.wrap (i.tmod n) = i.tmod n := by rw [IntKind.wrap_i64]; omega
  by_cases hneg : i.tmod n < 0
  · have hw2 : IntKind.i64.wrap (i.tmod n + n) = i.tmod n + n := by rw [IntKind.wrap_i64]; omega
    go_enter Try.func9, Try.ntmps9
    go_wp2_with fail
    go_ret
    exact ⟨_, by omega, by omega, rfl, rfl⟩
  · go_enter Try.func9, Try.ntmps9
    go_wp2_with fail
    go_ret
    exact ⟨_, by omega, by omega, rfl, rfl⟩
set_option maxRecDepth 100000 in
set_option maxHeartbeats 6400000 in
theorem call1 (a : PA) (s : PV) (q : Nat) (c1 c2 ee vv : Int) (w : World) (h : PN a s w) (hb : PBd s q) (hq : q ≤ 900) (hs1 : In64 c1) :
    Calls Try.prog 25 #[.pointer (some ⟨a.pb, 0, none⟩), .agg #[.int .i64 1, .int .i64 c1, .int .i64 c2, .int .i64 ee, .int .i64 vv]] w fun e w' => e = .returned (.bool true) ∧ PPost a s q (begX a.ca s.x c1 c2).la w w' := by
  obtain ⟨X, hX⟩ : ∃ X, X = w.alloc (.cells #[.int .i64 1, .int .i64 c1, .int .i64 c2, .int .i64 ee, .int .i64 vv] 34) := ⟨_, rfl⟩
  obtain ⟨bx, hbx⟩ : ∃ bx, bx = w.heap.size := ⟨_, rfl⟩
  have hbX : Below w.heap.size w X := by rw [hX]; exact (Below.refl _ _).alloc (Nat.le_refl _) _
  have hBX : Blk X bx #[.int .i64 1, .int .i64 c1, .int .i64 c2, .int .i64 ee, .int .i64 vv] 34 := by rw [hX, hbx]; exact heap_alloc_new w _
  have hX0 : PN a s X := h.more hbX
  have HBX : Hid (Below w.heap.size w X) := hbX
  have HBB : Hid (Blk X bx #[.int .i64 1, .int .i64 c1, .int .i64 c2, .int .i64 ee, .int .i64 vv] 34) := hBX
  have HPX : Hid (PN a s X) := hX0
  have HXN : Hid (¬ has (a.ents s) bx) := fun hh => by have := h.lt hh; omega
  have HBD : Hid (PBd s q) := hb
  have HC : Hid _ := pbegin a s q c1 c2 X hX0 hb hq hs1
  clear h hbX hBX hX0 hb
  go_enter Try.func25, Try.ntmps25
  go_wp2_with fail
  rw [← hX]
  refine Calls.mono HC.out ?_
  rintro e w2 ⟨rfl, hpp⟩
  have HFI : Hid (PPost a s q (begX a.ca s.x c1 c2).la w w2) := PPost.of HBX.out hpp
  clear hpp
  go_wp2_with fail
  go_ret
  exact ⟨rfl, HFI.out⟩
set_option maxRecDepth 100000 in
set_option maxHeartbeats 6400000 in
theorem call2 (a : PA) (s : PV) (q : Nat) (c1 c2 ee vv : Int) (w : World) (h : PN a s w) (hb : PBd s q) (hq : q ≤ 900) (hs1 : In64 c1) :
    Calls Try.prog 25 #[.pointer (some ⟨a.pb, 0, none⟩), .agg #[.int .i64 2, .int .i64 c1, .int .i64 c2, .int .i64 ee, .int .i64 vv]] w fun e w' => e = .returned (.bool true) ∧ PPost a s q s.x.la w w' := by
  obtain ⟨X, hX⟩ : ∃ X, X = w.alloc (.cells #[.int .i64 2, .int .i64 c1, .int .i64 c2, .int .i64 ee, .int .i64 vv] 34) := ⟨_, rfl⟩
  obtain ⟨bx, hbx⟩ : ∃ bx, bx = w.heap.size := ⟨_, rfl⟩
  have hbX : Below w.heap.size w X := by rw [hX]; exact (Below.refl _ _).alloc (Nat.le_refl _) _
  have hBX : Blk X bx #[.int .i64 2, .int .i64 c1, .int .i64 c2, .int .i64 ee, .int .i64 vv] 34 := by rw [hX, hbx]; exact heap_alloc_new w _
  have hX0 : PN a s X := h.more hbX
  have HBX : Hid (Below w.heap.size w X) := hbX
  have HBB : Hid (Blk X bx #[.int .i64 2, .int .i64 c1, .int .i64 c2, .int .i64 ee, .int .i64 vv] 34) := hBX
  have HPX : Hid (PN a s X) := hX0
  have HXN : Hid (¬ has (a.ents s) bx) := fun hh => by have := h.lt hh; omega
  have HBD : Hid (PBd s q) := hb
  have HC : Hid _ := pend a s q ⟨c1, c2, ee, vv⟩ X hX0 hb hq hs1
  clear h hbX hBX hX0 hb
  go_enter Try.func25, Try.ntmps25
  go_wp2_with fail
  rw [← hX]
  refine Calls.mono HC.out ?_
  rintro e w2 ⟨rfl, hpp⟩
  have HFI : Hid (PPost a s q s.x.la w w2) := PPost.of HBX.out hpp
  clear hpp
  go_wp2_with fail
  go_ret
  exact ⟨rfl, HFI.out⟩
set_option maxRecDepth 100000 in
set_option maxHeartbeats 6400000 in
theorem call5 (a : PA) (s : PV) (q : Nat) (c1 c2 ee vv : Int) (w : World) (h : PN a s w) (hb : PBd s q) (hq : q ≤ 900) (hs1 : In64 c1) (HPD : ∀ X, PN a s X → Calls Try.prog 32 #[.pointer (some ⟨a.pb, 0, none⟩)] X fun e w' => e = .returned (.bool true) ∧ PPost a s q s.x.la X w') :
    Calls Try.prog 25 #[.pointer (some ⟨a.pb, 0, none⟩), .agg #[.int .i64 5, .int .i64 c1, .int .i64 c2, .int .i64 ee, .int .i64 vv]] w fun e w' => e = .returned (.bool true) ∧ PPost a s q s.x.la w w' := by
  obtain ⟨X, hX⟩ : ∃ X, X = w.alloc (.cells #[.int .i64 5, .int .i64 c1, .int .i64 c2, .int .i64 ee, .int .i64 vv] 34) := ⟨_, rfl⟩
  obtain ⟨bx, hbx⟩ : ∃ bx, bx = w.heap.size := ⟨_, rfl⟩
  have hbX : Below w.heap.size w X := by rw [hX]; exact (Below.refl _ _).alloc (Nat.le_refl _) _
  have hBX : Blk X bx #[.int .i64 5, .int .i64 c1, .int .i64 c2, .int .i64 ee, .int .i64 vv] 34 := by rw [hX, hbx]; exact heap_alloc_new w _
  have hX0 : PN a s X := h.more hbX
  have HBX : Hid (Below w.heap.size w X) := hbX
  have HBB : Hid (Blk X bx #[.int .i64 5, .int .i64 c1, .int .i64 c2, .int .i64 ee, .int .i64 vv] 34) := hBX
  have HPX : Hid (PN a s X) := hX0
  have HXN : Hid (¬ has (a.ents s) bx) := fun hh => by have := h.lt hh; omega
  have HBD : Hid (PBd s q) := hb
  have HC : Hid _ := HPD X hX0
  clear h hbX hBX hX0 hb
  go_enter Try.func25, Try.ntmps25
  go_wp2_with fail
  rw [← hX]
  refine Calls.mono HC.out ?_
  rintro e w2 ⟨rfl, hpp⟩
  have HFI : Hid (PPost a s q s.x.la w w2) := PPost.of HBX.out hpp
  clear hpp
  go_wp2_with fail
  go_ret
  exact ⟨rfl, HFI.out⟩
set_option maxRecDepth 100000 in
set_option maxHeartbeats 6400000 in
theorem callO (a : PA) (s : PV) (q : Nat) (k c1 c2 ee vv : Int) (w : World) (h : PN a s w) (hb : PBd s q) (hq : q ≤ 900) (hs1 : In64 c1) (hk : ¬ (1 ≤ k ∧ k ≤ 6)) :
    Calls Try.prog 25 #[.pointer (some ⟨a.pb, 0, none⟩), .agg #[.int .i64 k, .int .i64 c1, .int .i64 c2, .int .i64 ee, .int .i64 vv]] w fun e w' => e = .returned (.bool true) ∧ PPost a s q s.x.la w w' := by
  obtain ⟨X, hX⟩ : ∃ X, X = w.alloc (.cells #[.int .i64 k, .int .i64 c1, .int .i64 c2, .int .i64 ee, .int .i64 vv] 34) := ⟨_, rfl⟩
  obtain ⟨bx, hbx⟩ : ∃ bx, bx = w.heap.size := ⟨_, rfl⟩
  have hbX : Below w.heap.size w X := by rw [hX]; exact (Below.refl _ _).alloc (Nat.le_refl _) _
  have hBX : Blk X bx #[.int .i64 k, .int .i64 c1, .int .i64 c2, .int .i64 ee, .int .i64 vv] 34 := by rw [hX, hbx]; exact heap_alloc_new w _
  have hX0 : PN a s X := h.more hbX
  have HBX : Hid (Below w.heap.size w X) := hbX
  have HBB : Hid (Blk X bx #[.int .i64 k, .int .i64 c1, .int .i64 c2, .int .i64 ee, .int .i64 vv] 34) := hBX
  have HPX : Hid (PN a s X) := hX0
  have HXN : Hid (¬ has (a.ents s) bx) := fun hh => by have := h.lt hh; omega
  have HBD : Hid (PBd s q) := hb
  have n1 : ¬ k = 1 := by omega
  have n2 : ¬ k = 2 := by omega
  have n3 : ¬ k = 3 := by omega
  have n4 : ¬ k = 4 := by omega
  have n5 : ¬ k = 5 := by omega
  have n6 : ¬ k = 6 := by omega
  have HFI : Hid (PPost a s q s.x.la w X) := ⟨s, hX0, PStp.ofBelow hbX, ⟨by have := hb.op; omega, by have := hb.rp; omega, ⟨hb.mrk.1, by have := hb.mrk.2; omega⟩, by have := hb.lc; omega⟩, rfl⟩
  clear h hbX hBX hX0 hb
  go_enter Try.func25, Try.ntmps25
  go_wp2_with fail
  rw [← hX]
  go_ret
  exact ⟨rfl, HFI.out⟩
set_option maxRecDepth 100000 in
set_option maxHeartbeats 6400000 in
theorem call3 (a : PA) (s : PV) (q : Nat) (c1 c2 ee vv : Int) (w : World) (h : PN a s w) (hb : PBd s q) (hq : q ≤ 900) (hs1 : In64 c1) :
    Calls Try.prog 25 #[.pointer (some ⟨a.pb, 0, none⟩), .agg #[.int .i64 3, .int .i64 c1, .int .i64 c2, .int .i64 ee, .int .i64 vv]] w fun e w' => e = .returned (.bool true) ∧ PPost a s q (begX a.ca s.x c1 (rlastA a.ca s.r.la c1 + 1)).la w w' := by
  obtain ⟨X, hX⟩ : ∃ X, X = w.alloc (.cells #[.int .i64 3, .int .i64 c1, .int .i64 c2, .int .i64 ee, .int .i64 vv] 34) := ⟨_, rfl⟩
  obtain ⟨bx, hbx⟩ : ∃ bx, bx = w.heap.size := ⟨_, rfl⟩
  have hbX : Below w.heap.size w X := by rw [hX]; exact (Below.refl _ _).alloc (Nat.le_refl _) _
  have hBX : Blk X bx #[.int .i64 3, .int .i64 c1, .int .i64 c2, .int .i64 ee, .int .i64 vv] 34 := by rw [hX, hbx]; exact heap_alloc_new w _
  have hX0 : PN a s X := h.more hbX
  have HBX : Hid (Below w.heap.size w X) := hbX
  have HBB : Hid (Blk X bx #[.int .i64 3, .int .i64 c1, .int .i64 c2, .int .i64 ee, .int .i64 vv] 34) := hBX
  have HPX : Hid (PN a s X) := hX0
  have HXN : Hid (¬ has (a.ents s) bx) := fun hh => by have := h.lt hh; omega
  have HBD : Hid (PBd s q) := hb
  have hok := h.ok
  have hlz : -1 ≤ rlastA a.ca s.r.la c1 ∧ rlastA a.ca s.r.la c1 ≤ 1099511627776 := by
    unfold rlastA
    split
    · rename_i hm
      have := h.g.bd c1 hm
      rw [h.g.la c1 hm]
      omega
    · omega
  obtain ⟨lz, hlzz⟩ : ∃ lz, lz = rlastA a.ca s.r.la c1 := ⟨_, rfl⟩
  rw [← hlzz] at hlz ⊢
  obtain ⟨la3, hla3d⟩ : ∃ la3, la3 = (begX a.ca s.x c1 (lz + 1)).la := ⟨_, rfl⟩
  rw [← hla3d]
  have HLA : Hid (∀ W, PN a s W → Calls Try.prog 30 #[.pointer (some ⟨a.rb, 0, none⟩), .int .i64 c1] W fun e w' => e = .returned (.int .i64 lz) ∧ ∃ q, w' = W.drewN q) := fun W hW => by
    have := rlast_any c1 W hW.rc hok
    rw [← hlzz] at this
    exact this
  have HBG : Hid (∀ W, PN a s W → Calls Try.prog 28 #[.pointer (some ⟨a.pb, 0, none⟩), .agg #[.int .i64 c1, .int .i64 (lz + 1)]] W fun e w' => e = .returned (.bool true) ∧ PPost a s q la3 W w') := fun W hW => by rw [hla3d]; exact pbegin a s q c1 (lz + 1) W hW hb hq hs1
  clear hlzz hok hla3d
  clear h hbX hBX hX0 hb
  go_enter Try.func25, Try.ntmps25
  go_wp2_with fail
  rw [← hX, ← hbx]
  clear hX hbx
  rename_i K hK
  try rw [show ∀ a : Act, a.put none undef = a from fun _ => rfl]
  refine wp_region_mix (fun wq => wq.cell? ⟨a.pb, 1, none⟩ = some (.pointer (some ⟨a.rb, 0, none⟩)) ∧ Blk wq bx #[.int .i64 3, .int .i64 c1, .int .i64 c2, .int .i64 ee, .int .i64 vv] 34) (fun i => i == 11 || i == 14 || i == 99) 99 (by kernel_rfl) rfl (by kernel_rfl) (by kernel_rfl) (by kernel_rfl) ?_
  refine withFrP (N := 90) rfl ?_
  intro f0 F0 hff
  have e0 : f0 0 = Value.pointer (some ⟨a.pb, 0, none⟩) := hff 0
  have e3 : f0 3 = Value.pointer (some ⟨bx, 0, none⟩) := hff 3
  clear hff
  have HCC : (fun wq => wq.cell? ⟨a.pb, 1, none⟩ = some (.pointer (some ⟨a.rb, 0, none⟩)) ∧ Blk wq bx #[.int .i64 3, .int .i64 c1, .int .i64 c2, .int .i64 ee, .int .i64 vv] 34) (({ X with drawn := X.drawn + 1 } : World)) := ⟨(HPX.out.box).cell 1, HBB.out⟩
  refine lyp F0 rfl HCC rfl (by omega) (wanted_none rfl) (v := Value.pointer (some ⟨a.pb, 0, none⟩)) (fun wr hwr => by simp only [execOp, (F0.eval 0 (by omega)).trans (show _ = Value.pointer (some ⟨a.pb, 0, none⟩) from by simp [upd, e0, e3])]; first | rfl | simp [go_sem]) fun F1 => ?_
  refine lyp F1 rfl HCC rfl (by omega) (wanted_none rfl) (v := Value.pointer (some ⟨bx, 1, none⟩)) (fun wr hwr => by simp only [execOp, (F1.eval 3 (by omega)).trans (show _ = Value.pointer (some ⟨bx, 0, none⟩) from by simp [upd, e0, e3])]; simp [go_sem]) fun F2 => ?_
  refine lyp F2 rfl HCC rfl (by omega) (wanted_none rfl) (v := Value.pointer (some ⟨bx, 1, none⟩)) (fun wr hwr => by simp only [execOp, (F2.eval 28 (by omega)).trans (show _ = Value.pointer (some ⟨bx, 1, none⟩) from by simp [upd, e0, e3])]; simp [go_sem]) fun F3 => ?_
  refine lyp F3 rfl HCC rfl (by omega) (wanted_none rfl) (v := Value.int .i64 c1) (fun wr hwr => by simp only [execOp, (F3.eval 29 (by omega)).trans (show _ = Value.pointer (some ⟨bx, 1, none⟩) from by simp [upd, e0, e3])]; simp [go_sem, show wr.cell? ⟨bx, 1, none⟩ = some (.int .i64 c1) from hwr.2.cell 1]) fun F4 => ?_
  refine lyp F4 rfl HCC rfl (by omega) (wanted_none rfl) (v := Value.pointer (some ⟨a.pb, 0, none⟩)) (fun wr hwr => by simp only [execOp, (F4.eval 0 (by omega)).trans (show _ = Value.pointer (some ⟨a.pb, 0, none⟩) from by simp [upd, e0, e3])]; first | rfl | simp [go_sem]) fun F5 => ?_
  refine lyp F5 rfl HCC rfl (by omega) (wanted_none rfl) (v := Value.pointer (some ⟨a.pb, 0, none⟩)) (fun wr hwr => by simp only [execOp, (F5.eval 31 (by omega)).trans (show _ = Value.pointer (some ⟨a.pb, 0, none⟩) from by simp [upd, e0, e3])]; simp [go_sem]) fun F6 => ?_
  refine lyp F6 rfl HCC rfl (by omega) (wanted_none rfl) (v := Value.pointer (some ⟨a.pb, 1, none⟩)) (fun wr hwr => by simp only [execOp, (F6.eval 32 (by omega)).trans (show _ = Value.pointer (some ⟨a.pb, 0, none⟩) from by simp [upd, e0, e3])]; simp [go_sem]) fun F7 => ?_
  refine lyp F7 rfl HCC rfl (by omega) (wanted_none rfl) (v := Value.pointer (some ⟨a.rb, 0, none⟩)) (fun wr hwr => by simp only [execOp, (F7.eval 33 (by omega)).trans (show _ = Value.pointer (some ⟨a.pb, 1, none⟩) from by simp [upd, e0, e3])]; simp [go_sem, hwr.1]) fun F8 => ?_
  refine lyp F8 rfl HCC rfl (by omega) (wanted_none rfl) (v := Value.pointer (some ⟨bx, 1, none⟩)) (fun wr hwr => by simp only [execOp, (F8.eval 3 (by omega)).trans (show _ = Value.pointer (some ⟨bx, 0, none⟩) from by simp [upd, e0, e3])]; simp [go_sem]) fun F9 => ?_
  refine lyp F9 rfl HCC rfl (by omega) (wanted_none rfl) (v := Value.pointer (some ⟨bx, 1, none⟩)) (fun wr hwr => by simp only [execOp, (F9.eval 35 (by omega)).trans (show _ = Value.pointer (some ⟨bx, 1, none⟩) from by simp [upd, e0, e3])]; simp [go_sem]) fun F10 => ?_
  refine lyp F10 rfl HCC rfl (by omega) (wanted_none rfl) (v := Value.int .i64 c1) (fun wr hwr => by simp only [execOp, (F10.eval 36 (by omega)).trans (show _ = Value.pointer (some ⟨bx, 1, none⟩) from by simp [upd, e0, e3])]; simp [go_sem, show wr.cell? ⟨bx, 1, none⟩ = some (.int .i64 c1) from hwr.2.cell 1]) fun F11 => ?_
  refine lcp F11 rfl HCC rfl (by omega) (wanted_none rfl) (g := 30) (args := #[Value.pointer (some ⟨a.rb, 0, none⟩), Value.int .i64 c1]) (by simp only [execOp, resolve, invoke, List.map_toArray, List.map_cons, List.map_nil, (F11.eval 34 (by omega)).trans (show _ = Value.pointer (some ⟨a.rb, 0, none⟩) from by simp [upd, e0, e3]), (F11.eval 37 (by omega)).trans (show _ = Value.int .i64 c1 from by simp [upd, e0, e3])]; simp [go_sem, Act.eval]) (HLA.out ({ X with drawn := X.drawn + 1 } : World) (HPX.out.more (Below.drew (Below.refl X.heap.size X)))) ?_
  rintro e v2 ⟨rfl, q2, hv2⟩
  have hbd : Below X.heap.size X v2 := by rw [hv2]; exact below_drewN (Below.drew (Below.refl X.heap.size X)) q2
  have HC2 : (fun wq => wq.cell? ⟨a.pb, 1, none⟩ = some (.pointer (some ⟨a.rb, 0, none⟩)) ∧ Blk wq bx #[.int .i64 3, .int .i64 c1, .int .i64 c2, .int .i64 ee, .int .i64 vv] 34) v2 := ⟨((HPX.out.more hbd).box).cell 1, Blk.below HBB.out hbd (Blk.lt HBB.out)⟩
  refine ⟨_, rfl, fun F12 => ?_⟩
  refine lyp F12 rfl HC2 rfl (by omega) (wanted_none rfl) (v := Value.int .i64 (lz + 1)) (fun wr hwr => by simp only [execOp, (F12.eval 38 (by omega)).trans (show _ = Value.int .i64 lz from by simp [upd, e0, e3])]; simp [go_sem, Act.eval]; rw [IntKind.wrap_i64]; omega) fun F13 => ?_
  refine lyp F13 rfl HC2 rfl (by omega) (wanted_none rfl) (v := Value.agg #[.int .i64 c1, .int .i64 (lz + 1)]) (fun wr hwr => by simp only [execOp, List.map_toArray, List.map_cons, List.map_nil, (F13.eval 30 (by omega)).trans (show _ = Value.int .i64 c1 from by simp [upd, e0, e3]), (F13.eval 39 (by omega)).trans (show _ = Value.int .i64 (lz + 1) from by simp [upd, e0, e3])]; simp [go_sem]) fun F14 => ?_
  refine lcp F14 rfl HC2 rfl (by omega) (wanted_none rfl) (g := 28) (args := #[Value.pointer (some ⟨a.pb, 0, none⟩), Value.agg #[.int .i64 c1, .int .i64 (lz + 1)]]) (by simp only [execOp, resolve, invoke, List.map_toArray, List.map_cons, List.map_nil, (F14.eval 27 (by omega)).trans (show _ = Value.pointer (some ⟨a.pb, 0, none⟩) from by simp [upd, e0, e3]), (F14.eval 40 (by omega)).trans (show _ = Value.agg #[.int .i64 c1, .int .i64 (lz + 1)] from by simp [upd, e0, e3])]; simp [go_sem, Act.eval]) (HBG.out v2 (HPX.out.more hbd)) ?_
  rintro e v3 ⟨rfl, hpp⟩
  obtain ⟨s3, hn3, hst3, hbd3, hla3⟩ := hpp
  have HC3 : (fun wq => wq.cell? ⟨a.pb, 1, none⟩ = some (.pointer (some ⟨a.rb, 0, none⟩)) ∧ Blk wq bx #[.int .i64 3, .int .i64 c1, .int .i64 c2, .int .i64 ee, .int .i64 vv] 34) v3 := ⟨(hn3.box).cell 1, hst3.chg.blk HC2.2 HXN.out⟩
  have HFI : Hid (PPost a s q la3 w v3) := PPost.of (HBX.out.trans (hbd.mono HBX.out.size)) ⟨s3, hn3, hst3, hbd3, hla3⟩
  refine ⟨_, rfl, fun F15 => ?_⟩
  refine lyp F15 rfl HC3 rfl (by omega) (wanted_none rfl) (v := Value.bool true) (fun wr hwr => by simp only [execOp, (F15.eval 41 (by omega)).trans (show _ = Value.bool true from by simp [upd, e0, e3])]; first | rfl | simp [go_sem]) fun F16 => ?_
  refine ⟨fun _ => HC3, ?_⟩
  refine hK _ _ ?_
  clear F0 F1 F2 F3 F4 F5 F6 F7 F8 F9 F10 F11 F12 F13 F14 F15 F16 e0 e3 HCC HC2 HC3
  simp only [Act.put, List.setIfInBounds_toArray, List.set_cons_succ, List.set_cons_zero]
  clear hn3 hst3 hbd3 hla3 hbd hv2 HBG HLA HPX HBB
  go_wp2_with fail
  go_ret
  exact ⟨rfl, HFI.out⟩
set_option maxRecDepth 100000 in
set_option maxHeartbeats 6400000 in
theorem call6 (a : PA) (s : PV) (q : Nat) (c1 c2 ee vv : Int) (w : World) (h : PN a s w) (hb : PBd s q) (hq : q ≤ 900) (hs1 : In64 c1) :
    Calls Try.prog 25 #[.pointer (some ⟨a.pb, 0, none⟩), .agg #[.int .i64 6, .int .i64 c1, .int .i64 c2, .int .i64 ee, .int .i64 vv]] w fun e w' => e = .returned (.bool true) ∧ PPost a s q s.x.la w w' := by
  obtain ⟨X, hX⟩ : ∃ X, X = w.alloc (.cells #[.int .i64 6, .int .i64 c1, .int .i64 c2, .int .i64 ee, .int .i64 vv] 34) := ⟨_, rfl⟩
  obtain ⟨bx, hbx⟩ : ∃ bx, bx = w.heap.size := ⟨_, rfl⟩
  have hbX : Below w.heap.size w X := by rw [hX]; exact (Below.refl _ _).alloc (Nat.le_refl _) _
  have hBX : Blk X bx #[.int .i64 6, .int .i64 c1, .int .i64 c2, .int .i64 ee, .int .i64 vv] 34 := by rw [hX, hbx]; exact heap_alloc_new w _
  have hX0 : PN a s X := h.more hbX
  have HBX : Hid (Below w.heap.size w X) := hbX
  have HBB : Hid (Blk X bx #[.int .i64 6, .int .i64 c1, .int .i64 c2, .int .i64 ee, .int .i64 vv] 34) := hBX
  have HPX : Hid (PN a s X) := hX0
  have HXN : Hid (¬ has (a.ents s) bx) := fun hh => by have := h.lt hh; omega
  have HBD : Hid (PBd s q) := hb
  have hok := h.ok
  obtain ⟨lz, hlzz⟩ : ∃ lz, lz = rlastA a.ca s.r.la c1 := ⟨_, rfl⟩
  have HLA : Hid (∀ W, PN a s W → Calls Try.prog 30 #[.pointer (some ⟨a.rb, 0, none⟩), .int .i64 c1] W fun e w' => e = .returned (.int .i64 lz) ∧ ∃ q, w' = W.drewN q) := fun W hW => by
    have := rlast_any c1 W hW.rc hok
    rw [← hlzz] at this
    exact this
  have HL1 : Hid (∀ W, PN a s W → Calls Try.prog 14 #[.pointer (some ⟨a.ca.cb, 0, none⟩), .int .i64 c1] W fun e w' => e = .returned (.int .i64 lz) ∧ Below W.heap.size W w') := fun W hW => by
    have := last_any c1 W hW.cm hs1
    rw [show lastA a.ca s.x c1 = lz from by
      rw [hlzz]
      unfold lastA rlastA
      split
      · rename_i hm
        exact (h.g.la c1 hm).symm
      · rfl] at this
    exact this
  have HBD2 : Hid (PBd s (q + 1)) := show PBd s (q + 1) from ⟨by have := hb.op; omega, by have := hb.rp; omega, ⟨hb.mrk.1, by have := hb.mrk.2; omega⟩, by have := hb.lc; omega⟩
  clear hlzz hok
  clear h hbX hBX hX0 hb
  go_enter Try.func25, Try.ntmps25
  go_wp2_with fail
  rw [← hX, ← hbx]
  clear hX hbx
  rename_i K hK
  try rw [show ∀ a : Act, a.put none undef = a from fun _ => rfl]
  refine wp_region_mix (fun wq => wq.cell? ⟨a.pb, 0, none⟩ = some (.pointer (some ⟨a.ca.cb, 0, none⟩)) ∧ Blk wq bx #[.int .i64 6, .int .i64 c1, .int .i64 c2, .int .i64 ee, .int .i64 vv] 34 ∧ wq.cell? ⟨a.pb, 1, none⟩ = some (.pointer (some ⟨a.rb, 0, none⟩))) (fun i => i == 7 || i == 15 || i == 99) 99 (by kernel_rfl) rfl (by kernel_rfl) (by kernel_rfl) (by kernel_rfl) ?_
  refine withFrP (N := 90) rfl ?_
  intro f0 F0 hff
  have e0 : f0 0 = Value.pointer (some ⟨a.pb, 0, none⟩) := hff 0
  have e3 : f0 3 = Value.pointer (some ⟨bx, 0, none⟩) := hff 3
  clear hff
  have HCC : (fun wq => wq.cell? ⟨a.pb, 0, none⟩ = some (.pointer (some ⟨a.ca.cb, 0, none⟩)) ∧ Blk wq bx #[.int .i64 6, .int .i64 c1, .int .i64 c2, .int .i64 ee, .int .i64 vv] 34 ∧ wq.cell? ⟨a.pb, 1, none⟩ = some (.pointer (some ⟨a.rb, 0, none⟩))) (({ X with drawn := X.drawn + 1 } : World)) := ⟨(HPX.out.box).cell 0, HBB.out, (HPX.out.box).cell 1⟩
  refine lyp F0 rfl HCC rfl (by omega) (wanted_none rfl) (v := Value.pointer (some ⟨a.pb, 0, none⟩)) (fun wr hwr => by simp only [execOp, (F0.eval 0 (by omega)).trans (show _ = Value.pointer (some ⟨a.pb, 0, none⟩) from by simp [upd, e0, e3])]; first | rfl | simp [go_sem]) fun F1 => ?_
  refine lyp F1 rfl HCC rfl (by omega) (wanted_none rfl) (v := Value.pointer (some ⟨a.pb, 0, none⟩)) (fun wr hwr => by simp only [execOp, (F1.eval 73 (by omega)).trans (show _ = Value.pointer (some ⟨a.pb, 0, none⟩) from by simp [upd, e0, e3])]; simp [go_sem]) fun F2 => ?_
  refine lyp F2 rfl HCC rfl (by omega) (wanted_none rfl) (v := Value.pointer (some ⟨a.pb, 0, none⟩)) (fun wr hwr => by simp only [execOp, (F2.eval 74 (by omega)).trans (show _ = Value.pointer (some ⟨a.pb, 0, none⟩) from by simp [upd, e0, e3])]; simp [go_sem]) fun F3 => ?_
  refine lyp F3 rfl HCC rfl (by omega) (wanted_none rfl) (v := Value.pointer (some ⟨a.ca.cb, 0, none⟩)) (fun wr hwr => by simp only [execOp, (F3.eval 75 (by omega)).trans (show _ = Value.pointer (some ⟨a.pb, 0, none⟩) from by simp [upd, e0, e3])]; simp [go_sem, hwr.1]) fun F4 => ?_
  refine lyp F4 rfl HCC rfl (by omega) (wanted_none rfl) (v := Value.pointer (some ⟨bx, 1, none⟩)) (fun wr hwr => by simp only [execOp, (F4.eval 3 (by omega)).trans (show _ = Value.pointer (some ⟨bx, 0, none⟩) from by simp [upd, e0, e3])]; simp [go_sem]) fun F5 => ?_
  refine lyp F5 rfl HCC rfl (by omega) (wanted_none rfl) (v := Value.pointer (some ⟨bx, 1, none⟩)) (fun wr hwr => by simp only [execOp, (F5.eval 77 (by omega)).trans (show _ = Value.pointer (some ⟨bx, 1, none⟩) from by simp [upd, e0, e3])]; simp [go_sem]) fun F6 => ?_
  refine lyp F6 rfl HCC rfl (by omega) (wanted_none rfl) (v := Value.int .i64 c1) (fun wr hwr => by simp only [execOp, (F6.eval 78 (by omega)).trans (show _ = Value.pointer (some ⟨bx, 1, none⟩) from by simp [upd, e0, e3])]; simp [go_sem, show wr.cell? ⟨bx, 1, none⟩ = some (.int .i64 c1) from hwr.2.1.cell 1]) fun F7 => ?_
  refine lcp F7 rfl HCC rfl (by omega) (wanted_none rfl) (g := 14) (args := #[Value.pointer (some ⟨a.ca.cb, 0, none⟩), Value.int .i64 c1]) (by simp only [execOp, resolve, invoke, List.map_toArray, List.map_cons, List.map_nil, (F7.eval 76 (by omega)).trans (show _ = Value.pointer (some ⟨a.ca.cb, 0, none⟩) from by simp [upd, e0, e3]), (F7.eval 79 (by omega)).trans (show _ = Value.int .i64 c1 from by simp [upd, e0, e3])]; simp [go_sem, Act.eval]) (HL1.out ({ X with drawn := X.drawn + 1 } : World) (HPX.out.more (Below.drew (Below.refl X.heap.size X)))) ?_
  rintro e v2 ⟨rfl, hb2⟩
  have hbd : Below X.heap.size X v2 := (Below.drew (Below.refl X.heap.size X)).trans hb2
  have HC2 : (fun wq => wq.cell? ⟨a.pb, 0, none⟩ = some (.pointer (some ⟨a.ca.cb, 0, none⟩)) ∧ Blk wq bx #[.int .i64 6, .int .i64 c1, .int .i64 c2, .int .i64 ee, .int .i64 vv] 34 ∧ wq.cell? ⟨a.pb, 1, none⟩ = some (.pointer (some ⟨a.rb, 0, none⟩))) v2 := ⟨((HPX.out.more hbd).box).cell 0, Blk.below HBB.out hbd (Blk.lt HBB.out), ((HPX.out.more hbd).box).cell 1⟩
  refine ⟨_, rfl, fun F8 => ?_⟩
  refine lyp F8 rfl HC2 rfl (by omega) (wanted_none rfl) (v := Value.pointer (some ⟨a.pb, 0, none⟩)) (fun wr hwr => by simp only [execOp, (F8.eval 0 (by omega)).trans (show _ = Value.pointer (some ⟨a.pb, 0, none⟩) from by simp [upd, e0, e3])]; first | rfl | simp [go_sem]) fun F9 => ?_
  refine lyp F9 rfl HC2 rfl (by omega) (wanted_none rfl) (v := Value.pointer (some ⟨a.pb, 0, none⟩)) (fun wr hwr => by simp only [execOp, (F9.eval 81 (by omega)).trans (show _ = Value.pointer (some ⟨a.pb, 0, none⟩) from by simp [upd, e0, e3])]; simp [go_sem]) fun F10 => ?_
  refine lyp F10 rfl HC2 rfl (by omega) (wanted_none rfl) (v := Value.pointer (some ⟨a.pb, 1, none⟩)) (fun wr hwr => by simp only [execOp, (F10.eval 82 (by omega)).trans (show _ = Value.pointer (some ⟨a.pb, 0, none⟩) from by simp [upd, e0, e3])]; simp [go_sem]) fun F11 => ?_
  refine lyp F11 rfl HC2 rfl (by omega) (wanted_none rfl) (v := Value.pointer (some ⟨a.rb, 0, none⟩)) (fun wr hwr => by simp only [execOp, (F11.eval 83 (by omega)).trans (show _ = Value.pointer (some ⟨a.pb, 1, none⟩) from by simp [upd, e0, e3])]; simp [go_sem, hwr.2.2]) fun F12 => ?_
  refine lyp F12 rfl HC2 rfl (by omega) (wanted_none rfl) (v := Value.pointer (some ⟨bx, 1, none⟩)) (fun wr hwr => by simp only [execOp, (F12.eval 3 (by omega)).trans (show _ = Value.pointer (some ⟨bx, 0, none⟩) from by simp [upd, e0, e3])]; simp [go_sem]) fun F13 => ?_
  refine lyp F13 rfl HC2 rfl (by omega) (wanted_none rfl) (v := Value.pointer (some ⟨bx, 1, none⟩)) (fun wr hwr => by simp only [execOp, (F13.eval 85 (by omega)).trans (show _ = Value.pointer (some ⟨bx, 1, none⟩) from by simp [upd, e0, e3])]; simp [go_sem]) fun F14 => ?_
  refine lyp F14 rfl HC2 rfl (by omega) (wanted_none rfl) (v := Value.int .i64 c1) (fun wr hwr => by simp only [execOp, (F14.eval 86 (by omega)).trans (show _ = Value.pointer (some ⟨bx, 1, none⟩) from by simp [upd, e0, e3])]; simp [go_sem, show wr.cell? ⟨bx, 1, none⟩ = some (.int .i64 c1) from hwr.2.1.cell 1]) fun F15 => ?_
  refine lcp F15 rfl HC2 rfl (by omega) (wanted_none rfl) (g := 30) (args := #[Value.pointer (some ⟨a.rb, 0, none⟩), Value.int .i64 c1]) (by simp only [execOp, resolve, invoke, List.map_toArray, List.map_cons, List.map_nil, (F15.eval 84 (by omega)).trans (show _ = Value.pointer (some ⟨a.rb, 0, none⟩) from by simp [upd, e0, e3]), (F15.eval 87 (by omega)).trans (show _ = Value.int .i64 c1 from by simp [upd, e0, e3])]; simp [go_sem, Act.eval]) (HLA.out v2 (HPX.out.more hbd)) ?_
  rintro e v3 ⟨rfl, q3, hv3⟩
  have hbe : Below X.heap.size X v3 := by rw [hv3]; exact below_drewN hbd q3
  have HC3 : (fun wq => wq.cell? ⟨a.pb, 0, none⟩ = some (.pointer (some ⟨a.ca.cb, 0, none⟩)) ∧ Blk wq bx #[.int .i64 6, .int .i64 c1, .int .i64 c2, .int .i64 ee, .int .i64 vv] 34 ∧ wq.cell? ⟨a.pb, 1, none⟩ = some (.pointer (some ⟨a.rb, 0, none⟩))) v3 := ⟨((HPX.out.more hbe).box).cell 0, Blk.below HBB.out hbe (Blk.lt HBB.out), ((HPX.out.more hbe).box).cell 1⟩
  have HFI : Hid (PPost a s q s.x.la w v3) := PPost.of HBX.out ⟨s, HPX.out.more hbe, PStp.ofBelow hbe, HBD2.out, rfl⟩
  refine ⟨_, rfl, fun F16 => ?_⟩
  refine lyp F16 rfl HC3 rfl (by omega) (wanted_none rfl) (v := Value.bool true) (fun wr hwr => by simp only [execOp, (F16.eval 80 (by omega)).trans (show _ = Value.int .i64 lz from by simp [upd, e0, e3]), (F16.eval 88 (by omega)).trans (show _ = Value.int .i64 lz from by simp [upd, e0, e3])]; simp [go_sem, Act.eval]) fun F17 => ?_
  refine lyp F17 rfl HC3 rfl (by omega) (wanted_none rfl) (v := Value.bool true) (fun wr hwr => by simp only [execOp, (F17.eval 89 (by omega)).trans (show _ = Value.bool true from by simp [upd, e0, e3])]; first | rfl | simp [go_sem]) fun F18 => ?_
  refine ⟨fun _ => HC3, ?_⟩
  refine hK _ _ ?_
  clear F0 F1 F2 F3 F4 F5 F6 F7 F8 F9 F10 F11 F12 F13 F14 F15 F16 F17 F18 e0 e3 HCC HC2 HC3
  simp only [Act.put, List.setIfInBounds_toArray, List.set_cons_succ, List.set_cons_zero]
  clear hbe hbd hv3 hb2 HL1 HLA HPX HBB
  go_wp2_with fail
  go_ret
  exact ⟨rfl, HFI.out⟩
end Go.Proofs.Ytadfmnlkfcigoaa
