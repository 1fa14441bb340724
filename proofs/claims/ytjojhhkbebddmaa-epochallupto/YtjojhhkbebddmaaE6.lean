import Derived.Test.YtjojhhkbebddmaaE5
namespace Go.Proofs.Ytjojhhkbebddmaa
open Go.RowKit Go.PlainAid
set_option linter.unusedVariables false
set_option linter.unusedSimpArgs false
theorem app_ep {w : World} {L : Nat} {v : Value} {l : List Ep} (d : Ep) (hown : w.ownsRow L 49 2 v l.length (flatE l)) (hb : L ≤ w.heap.size) (hl : l.length ≤ 1000000000) :
    ∃ v' w', (∀ ty, (Builtin.append_ #[64, 64] ty #[v, .slice (some ⟨w.heap.size, 0, none⟩) 1 1]).run Try.prog (w.alloc (.cells #[.int .i64 d.r, .int .i64 d.k] 49)) = .ok v' w') ∧ w'.ownsRow L 49 2 v' (l ++ [d]).length (flatE (l ++ [d])) ∧ Grew w w' v v' := by
  obtain ⟨v5, w5, hr5, ho5, hg5, _⟩ := app_any (w := w.alloc (.cells #[.int .i64 d.r, .int .i64 d.k] 49)) 64 49 (.agg #[.int .i64 0, .int .i64 0]) 2 16 Try.underlying64 info49 rfl (by decide) (by decide) (hown.alloc _) ⟨w.heap.size, 0, none⟩ 1 1 d.row rfl (fun j uu hu => by
    have hB : Blk (w.alloc (.cells #[.int .i64 d.r, .int .i64 d.k] 49)) w.heap.size #[.int .i64 d.r, .int .i64 d.k] 49 := heap_alloc_new w _
    rw [addr_add, Nat.zero_add, hB.cell j]
    simpa [Ep.row] using hu) (fun uu hu => flatE_one [d] uu (by simpa [flatE] using hu)) (by omega) (by rw [World.size_alloc]; omega) 64
  refine ⟨v5, w5, fun ty => hr5, ?_, hg5.ofAlloc⟩
  rw [flatE_app]
  simpa [flatE] using ho5
def liveL (x : EV) : Nat → List Ep
  | 0 => []
  | k + 1 => if liveE x k = e0 then liveL x k else liveL x k ++ [liveE x k]
theorem liveL_len (x : EV) (k : Nat) : (liveL x k).length ≤ k := by
  induction k with
  | zero => simp [liveL]
  | succ k ih =>
    simp only [liveL]
    split
    · omega
    · simp; omega
theorem Grew.up {w w' : World} {v v' : Value} {L : Nat} (h : Grew w w' v v') (hv : ∀ g, v.ownBlock = some g → L ≤ g) (hl : L ≤ w.heap.size) : Below L w w' := h.chg.below hl (fun k e => hv k e)
set_option maxRecDepth 100000 in
set_option maxHeartbeats 3200000 in
theorem live_list {L mb cb : Nat} {x : EV} {A : List Ac} (w : World) (h : MM L mb cb x A w) (hn : x.n ≤ 16) : Calls Try.prog 25 #[.pointer (some ⟨mb, 0, none⟩)] w fun e w' => ∃ v, e = .returned v ∧ w'.ownsRow w.heap.size 49 2 v (liveL x x.n).length (flatE (liveL x x.n)) ∧ Below w.heap.size w w' := by
  have c1 := h.c1
  have HM : Hid _ := h
  clear h
  go_enter Try.func25, Try.ntmps25
  go_wp2
  go_loopw [3, 10] (fun v i wr => ∃ k : Nat, k ≤ x.n ∧ i = .int .i64 (k : Int) ∧ Hid (wr.ownsRow w.heap.size 49 2 v (liveL x k).length (flatE (liveL x k))) ∧ Hid (Below w.heap.size w wr)) (fun _ i _ => x.n - (intOf i).toNat)
  case atStart => exact ⟨0, Nat.zero_le _, rfl, World.ownsRow_nil _ _ _ _, Below.refl _ _⟩
  case round =>
    obtain ⟨k, hk, rfl, HO, HB⟩ := hrel
    by_cases hlt : k < x.n
    · obtain ⟨er, ek, hE⟩ : ∃ er ek, liveE x k = ⟨er, ek⟩ := ⟨_, _, rfl⟩
      have HT : Hid (liveL x (k + 1) = if (⟨er, ek⟩ : Ep) = e0 then liveL x k else liveL x k ++ [⟨er, ek⟩]) := show liveL x (k + 1) = _ from by rw [← hE]; rfl
      have HL : Hid (Calls Try.prog 43 #[.pointer (some ⟨mb, 0, none⟩), .int .i64 (k : Int)] wr fun e w' => e = .returned (epV ⟨er, ek⟩) ∧ Below wr.heap.size wr w') := show Calls Try.prog 43 #[.pointer (some ⟨mb, 0, none⟩), .int .i64 (k : Int)] wr fun e w' => e = .returned (epV ⟨er, ek⟩) ∧ Below wr.heap.size wr w' from by rw [← hE]; exact live_any k wr (HM.out.more HB.out) (by omega)
      clear hE
      unfold epV at *
      have HN : Hid _ := fun W => isNone_any er ek W
      have hll := liveL_len x k
      obtain ⟨vo, vc, hv, _⟩ := own_slice HO.out
      obtain ⟨n, hn'⟩ : ∃ n, n = (liveL x k).length := ⟨_, rfl⟩
      have HHN : Hid (n = (liveL x k).length) := hn'
      rw [← hn'] at hv
      have HLL : Hid ((liveL x k).length ≤ 1000000000) := show (liveL x k).length ≤ 1000000000 from by omega
      clear hn' hll
      by_cases hd : (⟨er, ek⟩ : Ep) = e0
      · have hd' : decide ((⟨er, ek⟩ : Ep) = e0) = true := decide_eq_true hd
        rw [hd'] at HN
        have HD : Hid _ := hd
        clear hd hd'
        subst hv
        go_wp2_with (first
          | (go_at_call 43; refine Calls.mono HL.out ?_; rintro e w1 ⟨rfl, hb1⟩)
          | (go_at_call 34; refine Calls.mono (HN.out _) ?_; rintro e w2 ⟨rfl, hb2⟩)
          | fail)
        go_roundw
        case rel =>
          have hbb : Below wr.heap.size wr w2 := bgo (bal hb1 (Nat.le_refl _) _) hb2 (Nat.le_refl _)
          refine ⟨k + 1, by omega, by go_num, ?_, bgo HB.out hbb (Nat.le_refl _)⟩
          rw [HT.out, if_pos HD.out]
          exact ownsRow_same HO.out (fun g e => hbb.block g (ownsRow_lt HO.out e).2)
        case measure => simp [intOf]; omega
      · have hd' : decide ((⟨er, ek⟩ : Ep) = e0) = false := decide_eq_false hd
        rw [hd'] at HN
        have HD : Hid _ := hd
        clear hd hd'
        subst hv
        go_wp2_with (first
          | (go_at_call 43; refine Calls.mono HL.out ?_; rintro e w1 ⟨rfl, hb1⟩)
          | (go_at_call 34; refine Calls.mono (HN.out _) ?_; rintro e w2 ⟨rfl, hb2⟩; have hq : Blk w2 w1.heap.size #[.int .i64 er, .int .i64 ek] 49 := Blk.up (heap_alloc_new w1 _) hb2; have c20 : w2.cell? ⟨w1.heap.size, 0, none⟩ = some (.int .i64 er) := hq.cell 0; have c21 : w2.cell? ⟨w1.heap.size, 1, none⟩ = some (.int .i64 ek) := hq.cell 1; have hbb : Below wr.heap.size wr w2 := bgo (bal hb1 (Nat.le_refl _) _) hb2 (Nat.le_refl _); have hb0 := HB.out.size; have hb3 := hbb.size; obtain ⟨v6, w6, hr6, ho6, hg6⟩ := app_ep (⟨er, ek⟩ : Ep) (ownsRow_same HO.out (fun g e => hbb.block g (ownsRow_lt HO.out e).2)) (by omega) HLL.out; have HHR : Hid _ := hr6; have HO6 : Hid _ := ho6; have HG6 : Hid _ := hg6; clear hr6 ho6 hg6 hq)
          | (at_builtin; refine wpList_runs rfl _ _ 64 rfl rfl rfl HHR.out ?_)
          | fail)
        go_roundw
        case rel =>
          refine ⟨k + 1, by omega, by go_num, ?_, (bgo HB.out hbb (Nat.le_refl _)).trans (HG6.out.up (L := w.heap.size) (fun g e => (ownsRow_lt HO.out e).1) (by omega))⟩
          rw [HT.out, if_neg HD.out]
          exact HO6.out
        case measure => simp [intOf]; omega
    · obtain rfl : k = x.n := by omega
      go_wp2
      go_ret
      exact ⟨_, rfl, HO.out, HB.out⟩
end Go.Proofs.Ytjojhhkbebddmaa
