import Derived.Test.YtgnkkpcklljffaaDoorCons0
import Derived.Deep.Cut
namespace Go.Proofs.YtgnkkpcklljffaaDoor
open Go.RowKit Go.PlainAid
set_option linter.unusedVariables false
set_option linter.unusedSimpArgs false
theorem Tryd.info24 : (Tryd.prog.info? 24).map (fun i => (i.zero, i.size, i.bytes)) = some (some (.pointer none), 1, 8) := by kernel_rfl
theorem own_ge {w : World} {base e s n : Nat} {v : Value} {xs : List Value} (h : w.ownsRow base e s v n xs) {g : Nat} (hg : v.ownBlock = some g) : base ≤ g ∧ ∃ cur, w.heap[g]? = some (.cells cur e (0, 0)) := by
  rcases h.2 with ⟨rfl, _⟩ | ⟨g', cap, cur, rfl, hb, hh, _⟩
  · cases hg
  · cases hg
    exact ⟨hb, cur, hh⟩
/-- The ledgers while they are made. -/
structure C1 (L : Nat) (lim : Int) (k : Nat) (v : Value) (hs : List Nat) (W0 w : World) : Prop where
  len : hs.length = k
  own : w.ownsRow L 24 1 v k (ptrs hs)
  at_ : ∀ (i h : Nat), hs[i]? = some h → Blk w h (LS.mk 0 0 0 lim 0).cs 62 ∧ L ≤ h
  nodup : ∀ (i j h : Nat), hs[i]? = some h → hs[j]? = some h → i = j
  q : Below L W0 w
  sz : L ≤ W0.heap.size
theorem C1.next {L : Nat} {lim : Int} {k : Nat} {v v' : Value} {hs : List Nat} {W0 w w1 : World} (h : C1 L lim k v hs W0 w)
    (hown : w1.ownsRow L 24 1 v' (k + 1) (ptrs hs ++ [.pointer (some ⟨w.heap.size, 0, none⟩)])) (hg : ((w.alloc (.cells (LS.mk 0 0 0 lim 0).cs 62)).alloc (.cells #[.pointer (some ⟨w.heap.size, 0, none⟩)] 24)).grownBy w1 v.ownBlock) : C1 L lim (k + 1) v' (hs ++ [w.heap.size]) W0 w1 := by
  have hne : ∀ (x : Nat) C, Blk w x C 62 → v.ownBlock ≠ some x := fun x C hB e => by
    obtain ⟨_, cur, hc⟩ := own_ge h.own e
    exact blk_ne hB (show Blk w x cur 24 from hc) (by decide) rfl
  have hsz : L ≤ w.heap.size := Nat.le_trans h.sz h.q.size
  have hnew : Blk w1 w.heap.size (LS.mk 0 0 0 lim 0).cs 62 := by
    refine (hg.block _ (by simp; omega) (fun e => ?_)).trans ((Below.heap_alloc _ _ _ (by simp)).trans (heap_alloc_new w _))
    obtain ⟨_, cur, hc⟩ := own_ge h.own e.symm
    have := (Array.getElem?_eq_some_iff.1 hc).1
    omega
  refine ⟨by simp [h.len], by rw [show ptrs (hs ++ [w.heap.size]) = ptrs hs ++ [.pointer (some ⟨w.heap.size, 0, none⟩)] from by simp [ptrs]]; exact hown, fun i x hi => ?_, fun i j x hi hj => ?_, ?_, h.sz⟩
  · by_cases hlt : i < hs.length
    · rw [List.getElem?_append_left hlt] at hi
      obtain ⟨hB, hl⟩ := h.at_ i x hi
      exact ⟨(hg.block x (by have := hB.lt; simp; omega) (fun e => hne x _ hB e.symm)).trans ((Below.heap_alloc _ _ _ (by have := hB.lt; simp; omega)).trans ((Below.heap_alloc _ _ _ hB.lt).trans hB)), hl⟩
    · rw [List.getElem?_append_right (by omega)] at hi
      by_cases e0 : i - hs.length = 0
      · rw [e0] at hi; cases hi; exact ⟨hnew, hsz⟩
      · rw [List.getElem?_eq_none (by simp; omega)] at hi; cases hi
  · have hin : ∀ (i : Nat), (hs ++ [w.heap.size])[i]? = some x → (i < hs.length ∧ hs[i]? = some x ∧ x < w.heap.size) ∨ (i = hs.length ∧ x = w.heap.size) := fun i hi => by
      by_cases hlt : i < hs.length
      · rw [List.getElem?_append_left hlt] at hi
        exact Or.inl ⟨hlt, hi, (h.at_ i x hi).1.lt⟩
      · rw [List.getElem?_append_right (by omega)] at hi
        by_cases e0 : i - hs.length = 0
        · rw [e0] at hi; cases hi; exact Or.inr ⟨by omega, rfl⟩
        · rw [List.getElem?_eq_none (by simp; omega)] at hi; cases hi
    rcases hin i hi with ⟨_, a, b⟩ | ⟨a, b⟩ <;> rcases hin j hj with ⟨_, c, d⟩ | ⟨c, d⟩
    · exact h.nodup i j x a c
    · omega
    · omega
    · omega
  · have b1 : Below w.heap.size w ((w.alloc (.cells (LS.mk 0 0 0 lim 0).cs 62)).alloc (.cells #[.pointer (some ⟨w.heap.size, 0, none⟩)] 24)) := by go_grown
    have b2 := h.q.trans (b1.mono hsz)
    exact b2.grown hg (Nat.le_trans h.sz b2.size) (fun x hx => (own_ge h.own hx).1)
theorem fsum_rep (f : LS → Int) (s : LS) (h : f s = 0) : ∀ n : Nat, fsum f (List.replicate n s) = 0
  | 0 => rfl
  | n + 1 => by rw [List.replicate_succ]; simp only [fsum, fsum_rep f s h n, h]; omega
/-- When all are made. -/
theorem C1.done {L : Nat} {lim : Int} {k : Nat} {v : Value} {hs : List Nat} {W0 w : World} (h : C1 L lim k v hs W0 w) (hk : 1 ≤ k) (ho : okAmt lim = true) : ∃ g cap, v = .slice (some ⟨g, 0, none⟩) k cap ∧ CM L g hs (List.replicate k (LS.mk 0 0 0 lim 0)) lim W0 w := by
  rcases h.own.2 with ⟨_, h0⟩ | ⟨g, cap, cur, rfl, hb, hg, hc, hm, hcs, htake⟩
  · omega
  · refine ⟨g, cap, rfl, by simp [h.len], fun i x s hi hsi => ?_, h.nodup, ⟨cur, hg, fun i x hi => ?_⟩, fun i x hi => (h.at_ i x hi).2, h.q, h.sz⟩
    · have : s = LS.mk 0 0 0 lim 0 := by
        rw [List.getElem?_replicate] at hsi
        split at hsi
        · cases hsi; rfl
        · cases hsi
      subst this
      exact ⟨(h.at_ i x hi).1, fresh_ok ho, rfl⟩
    · have hil : i < hs.length := (List.getElem?_eq_some_iff.1 hi).1
      have e : (ptrs hs)[i]? = some (.pointer (some ⟨x, 0, none⟩)) := by simp [ptrs, hi]
      rw [← htake, List.getElem?_take, if_pos (by have := h.len; omega)] at e
      simpa using e
theorem tcode0_amt {s : LS} {i : Nat} {k : Int} (h : s.tcode i k = 0) : 1 ≤ k ∧ k ≤ 1099511627776 := by
  unfold LS.tcode at h
  by_cases ho : okAmt k = true
  · exact okAmt_yes ho
  · rw [if_neg ho] at h; cases h
theorem set_same : ∀ {ls : List LS} {i : Nat} {s : LS}, ls[i]? = some s → ls.set i s = ls
  | x :: r, 0, s, h => by simp at h; subst h; rfl
  | x :: r, i + 1, s, h => by simp only [List.getElem?_cons_succ] at h; simp only [List.set_cons_succ, set_same h]
  | [], i, s, h => by simp at h
structure HandA where
  kind : Int
  fr : Int
  to : Int
  a : Int
  b : Int
structure HandAt (W : World) (b off : Nat) (o : HandA) : Prop where
  c0 : W.cell? ⟨b, off, none⟩ = some (.int .i64 o.kind)
  c1 : W.cell? ⟨b, off + 1, none⟩ = some (.int .i64 o.fr)
  c2 : W.cell? ⟨b, off + 2, none⟩ = some (.int .i64 o.to)
  c3 : W.cell? ⟨b, off + 3, none⟩ = some (.int .i64 o.a)
  c4 : W.cell? ⟨b, off + 4, none⟩ = some (.int .i64 o.b)
  w0 : IntKind.i64.wrap o.kind = o.kind
  w1 : IntKind.i64.wrap o.fr = o.fr
  w2 : IntKind.i64.wrap o.to = o.to
  w3 : IntKind.i64.wrap o.a = o.a
  w4 : IntKind.i64.wrap o.b = o.b
def CR (S : Sens) (L g : Nat) (hs : List Nat) (lim : Int) (W0 w : World) (val : Int) : Prop := ∃ ls, CM L g hs ls lim W0 w ∧ CS ls lim val
theorem CS.val0 {L g : Nat} {hs : List Nat} {ls : List LS} {lim val : Int} {W0 w : World} (h : CS ls lim val) (hm : CM L g hs ls lim W0 w) : 0 ≤ val := by
  rw [← h.dn]; exact fsum_nonneg _ _ fun s hs => (hm.oks s hs).1.d0
theorem d_le_all {s : LS} (h : s.Ok) : s.d ≤ s.all := by have := h.u0; have := h.h0; unfold LS.all; omega
theorem fsum_mono (f f2 : LS → Int) : ∀ ls : List LS, (∀ s ∈ ls, f s ≤ f2 s) → fsum f ls ≤ fsum f2 ls
  | [], _ => by simp [fsum]
  | x :: r, h => by
    have h1 := h x (by simp)
    have h2 := fsum_mono f f2 r fun s hs => h s (by simp [hs])
    simp only [fsum]; omega
theorem fsum_pre (f : LS → Int) : ∀ (ls : List LS) (k : Nat), (∀ s ∈ ls, 0 ≤ f s) → 0 ≤ fsum f (ls.take k) ∧ fsum f (ls.take k) ≤ fsum f ls
  | [], k, _ => by simp [fsum]
  | x :: r, 0, h => by
    have := fsum_nonneg f (x :: r) h
    simp only [List.take_zero, fsum] at *; omega
  | x :: r, k + 1, h => by
    have h1 := h x (by simp)
    have h2 := fsum_pre f r k fun s hs => h s (by simp [hs])
    simp only [List.take_succ_cons, fsum]; omega
theorem CS.bounds {L g : Nat} {hs : List Nat} {ls : List LS} {lim val : Int} {W0 w : World} (h : CS ls lim val) (hm : CM L g hs ls lim W0 w) (hl : lim ≤ 1099511627776) (k : Nat) :
    (0 ≤ fsum LS.all (ls.take k) ∧ fsum LS.all (ls.take k) ≤ 1099511627776) ∧ (0 ≤ fsum LS.d (ls.take k) ∧ fsum LS.d (ls.take k) ≤ 1099511627776) ∧ 0 ≤ val ∧ val ≤ 1099511627776 := by
  have h1 := fsum_pre LS.all ls k fun s hs => LS.all_nonneg (hm.oks s hs).1
  have h2 := fsum_pre LS.d ls k fun s hs => (hm.oks s hs).1.d0
  have h3 := fsum_mono LS.d LS.all ls fun s hs => d_le_all (hm.oks s hs).1
  have h4 := h.val0 hm
  rw [h.tot] at h1 h3
  rw [h.dn] at h2 h3
  omega
set_option maxRecDepth 100000 in
set_option maxHeartbeats 25600000 in
theorem cons_law {S : Sens} (z0 z1 z2 : Int) (ao : Option Addr) (N cap : Nat) (os : List HandA) (W : World) (hS : Sen S W.heap.size W) (y0 : IntKind.i64.wrap z0 = z0) (y1 : IntKind.i64.wrap z1 = z1) (y2 : IntKind.i64.wrap z2 = z2) (hN : os.length = N) (hmax : N ≤ maxLen) (hat : 0 < N → ∃ b off, ao = some ⟨b, off, none⟩ ∧ ∀ i o, os[i]? = some o → HandAt W b (off + i * 5) o) :
    Calls Tryd.prog 4 #[.int .i64 z0, .int .i64 z1, .int .i64 z2, .slice ao N cap] W fun e W' => e = .returned (.bool true) ∧ Below W.heap.size W W' := by
  have hmax' : N ≤ 9223372036854775807 := by simpa [maxLen] using hmax
  have hal := alive_any W hS
  have HT : Hid _ := hat
  have HS : Hid _ := hS
  clear hat hS
  go_enter Tryd.func4, Tryd.ntmps4
  go_wp2_with fail
  refine hal.mono ?_
  rintro e1 W1 ⟨rfl, hb1⟩
  have HB1 : Hid _ := hb1
  clear hal hb1
  have hw := within_any z0 1 1099511627776 W1 y0 (by omega) (by omega) (by omega)
  go_wp2_with fail
  refine hw.mono ?_
  rintro e2 W2 ⟨⟨lim, rfl, hl1, hl2⟩, rfl⟩
  have hw := within_any z1 1 8 W2 y1 (by omega) (by omega) (by omega)
  go_wp2_with fail
  refine hw.mono ?_
  rintro e3 W3 ⟨⟨nI, rfl, hn1, hn8⟩, rfl⟩
  have hw := within_any z2 0 lim W3 y2 (by omega) (by omega) (by omega)
  go_wp2_with fail
  refine hw.mono ?_
  rintro e4 W4 ⟨⟨fst, rfl, hf0, hf1⟩, rfl⟩
  clear hw y0 y1 y2
  obtain ⟨n, rfl⟩ : ∃ n : Nat, nI = (n : Int) := ⟨nI.toNat, by omega⟩
  have ol : okAmt lim = true := by simp [okAmt]; omega
  have hC0 : C1 W.heap.size lim 0 (.slice none 0 0) [] W W4 := ⟨rfl, World.ownsRow_nil _ _ _ _, (fun i h e => by simp at e), (fun i j h e => by simp at e), HB1.out, Nat.le_refl _⟩
  have HC0 : Hid _ := hC0
  clear hC0 HB1
  go_wp2_with fail
  go_loopw [10, 11, 12, 13] (fun (v : Value) (i : Value) (_ : Value) (_ : Value) (wr : World) => ∃ k : Nat, k ≤ n ∧ i = .int .i64 k ∧ ∃ hs, C1 W.heap.size lim k v hs W wr) (fun _ i _ _ _ => n - (intOf i).toNat)
  case atStart => exact ⟨0, Nat.zero_le _, rfl, _, HC0.out⟩
  case round =>
    obtain ⟨k, hk, rfl, hs, hC⟩ := hrel
    rename World => wr
    clear HC0
    by_cases hlt : k < n
    · have hnw := new_any lim wr ol
      obtain ⟨i0, hi, hz0, hz1, hz2⟩ := info_parts Tryd.info24
      have hown := hC.own
      have HC : Hid _ := hC
      have hbs : W.heap.size ≤ wr.heap.size := Nat.le_trans hC.sz hC.q.size
      clear hC
      generalize hC0 : (LS.mk 0 0 0 lim 0).cs = C0 at *
      have HC0 : Hid _ := hC0
      clear hC0
      go_wp2_with fail
      refine hnw.mono ?_
      rintro e5 W5 ⟨rfl, rfl⟩
      clear hnw
      go_wp2_with (first
        | (at_builtin; refine wpList_append_own _ rfl _ _ 37 rfl W.heap.size 24 i0 (.pointer none) 1 8 Tryd.underlying37 hi hz0 hz1 hz2 rfl (by decide) _ _ _ rfl ((hown.alloc _).alloc _) ⟨wr.heap.size + 1, 0, none⟩ 1 1 [.pointer (some ⟨wr.heap.size, 0, none⟩)] rfl rfl ?c1 ?c2 ?c3 ?c4 ?c5 ?_)
        | fail)
      case c1 =>
        intro j y hj
        match j, hj with
        | 0, hj => simp at hj; subst hj; simp [Addr.add]
      case c2 => intro y hy; simp at hy; subst hy; rfl
      case c3 => unfold maxLen; omega
      case c4 => omega
      case c5 => simp; omega
      · as_aux_lemma =>
          intro v' w1 hown' hgrow _
          have HE : Hid _ := (by have hg' := hgrow; rw [← HC0.out] at hg'; exact HC.out.next hown' hg' : C1 W.heap.size lim (k + 1) v' (hs ++ [wr.heap.size]) W w1)
          clear hown' hgrow hown HC HC0 hi hz0 hz1 hz2
          go_wp2_with fail
          go_roundw
          case rel => exact ⟨k + 1, by omega, by go_num, _, HE.out⟩
          case measure => simp [intOf]; omega
    · obtain rfl : n = k := by omega
      obtain ⟨g, capv, rfl, hM⟩ := hC.done (by omega) ol
      have hhl := hC.len
      clear hC hk hlt
      obtain ⟨h0, s0, hh0, hs0, hB0, hok0, hc0, hL0⟩ := hM.get (i := 0) (by omega)
      have es0 : s0 = LS.mk 0 0 0 lim 0 := by
        rw [List.getElem?_replicate] at hs0
        split at hs0
        · cases hs0; rfl
        · cases hs0
      subst es0
      have hin := in_any wr (HS.out.below hM.q) hB0 hok0 hL0 fst (lim - fst) (by rw [IntKind.wrap_i64]; omega) (by rw [IntKind.wrap_i64]; omega)
      rw [bk_in0 (c := lim) (d := fst) (u := lim - fst) (k := 1) hf0 (by omega) (by omega) hl2 (by omega) (by omega), bk_in (c := lim) (d := fst) (u := lim - fst) (k := 1) hf0 (by omega) (by omega) hl2 (by omega) (by omega)] at hin
      have c0 := hM.cell hh0
      have e1 : IntKind.i64.wrap (lim - fst) = lim - fst := by rw [IntKind.wrap_i64]; omega
      have hn0 : (0 : Int) < (n : Int) := by omega
      have HM : Hid _ := hM
      clear hM hB0
      go_wp2_with fail
      refine hin.mono ?_
      rintro e6 W6 ⟨rfl, hB6, hT6⟩
      have hok1 : (LS.mk fst (lim - fst) 0 lim 0).Ok := bk_ok1 (k := 1) hf0 (by omega) (by omega) hl2 (by omega) (by omega)
      have hM1 := HM.out.step hh0 hs0 hB6 hok1 rfl hT6
      have hCS : CS ((List.replicate n (LS.mk 0 0 0 lim 0)).set 0 (LS.mk fst (lim - fst) 0 lim 0)) lim fst := by
        refine ⟨?_, ?_⟩
        · rw [fsum_set _ _ _ _ _ hs0, fsum_rep _ _ rfl]; simp only [LS.all]; omega
        · rw [fsum_set _ _ _ _ _ hs0, fsum_rep _ _ rfl]; simp only; omega
      have HR : Hid (CR S W.heap.size g hs lim W W6 fst) := ⟨_, hM1, hCS⟩
      clear hin c0 e1 HM hB6 hT6 hok1 hM1 hCS hs0 hok0 hc0 hL0 hh0
      go_wp2_with fail
      go_loopw [15, 16, 17, 18, 19, 20, 21, 22, 23, 24, 25, 26, 27] (fun (vv : Value) (i : Value) (_ : Value) (_ : Value) (_ : Value) (_ : Value) (_ : Value) (_ : Value) (_ : Value) (_ : Value) (_ : Value) (_ : Value) (_ : Value) (wq : World) => ∃ k : Nat, k ≤ N ∧ i = .int .i64 k ∧ ∃ val, vv = .int .i64 val ∧ CR S W.heap.size g hs lim W wq val) (fun _ i _ _ _ _ _ _ _ _ _ _ _ _ => N - (intOf i).toNat)
      case atStart => exact ⟨0, Nat.zero_le _, rfl, _, rfl, HR.out⟩
      case round =>
        obtain ⟨k, hk, rfl, val, rfl, hR⟩ := hrel
        rename World => wq
        clear HR
        by_cases hlt : k < N
        · by_cases h1000 : k < 1000
          · obtain ⟨o, ho⟩ : ∃ o, os[k]? = some o := ⟨os[k]'(by omega), List.getElem?_eq_getElem _⟩
            obtain ⟨b, off, rfl, hcell⟩ := HT.out (by omega)
            have hoa := hcell k o ho
            have hbl : b < W.heap.size := World.block_lt_of_cell? _ _ hoa.c0
            obtain ⟨ls, hM, hCS⟩ := hR
            have hc := fun (j : Nat) => hM.q.cell (p := ⟨b, j, none⟩) hbl
            have d0 := (hc _).trans hoa.c0
            have d1 := (hc _).trans hoa.c1
            have d2 := (hc _).trans hoa.c2
            have d3 := (hc _).trans hoa.c3
            have d4 := (hc _).trans hoa.c4
            have u0 := hoa.w0
            have u1 := hoa.w1
            have u2 := hoa.w2
            have u3 := hoa.w3
            have u4 := hoa.w4
            obtain ⟨kind, fr, to, a, c⟩ := o
            simp only at d0 d1 d2 d3 d4 u0 u1 u2 u3 u4
            have hgr : Below wq.heap.size wq (wq.alloc (.cells #[.int .i64 kind, .int .i64 fr, .int .i64 to, .int .i64 a, .int .i64 c] 39)) := by go_grown
            have hbox : Blk (wq.alloc (.cells #[.int .i64 kind, .int .i64 fr, .int .i64 to, .int .i64 a, .int .i64 c] 39)) wq.heap.size #[.int .i64 kind, .int .i64 fr, .int .i64 to, .int .i64 a, .int .i64 c] 39 := heap_alloc_new wq _
            replace hM := hM.more hgr
            have hw1 := within_any fr 0 ((n : Int) - 1) (wq.alloc (.cells #[.int .i64 kind, .int .i64 fr, .int .i64 to, .int .i64 a, .int .i64 c] 39)) u1 (by omega) (by omega) (by omega)
            have en : IntKind.i64.wrap ((n : Int) - 1) = (n : Int) - 1 := by rw [IntKind.wrap_i64]; omega
            have HM : Hid _ := hM
            have HX : Hid _ := hbox
            have HCS : Hid _ := hCS
            clear hoa hcell ho hc hN hgr hM hbox hCS
            go_wp2_with fail
            refine hw1.mono ?_
            rintro e7 W7 ⟨⟨iI, rfl, hi0, hi1⟩, hw7⟩
            have hM : CM W.heap.size g hs ls lim W W7 := hw7 ▸ HM.out
            have hX : Blk W7 wq.heap.size #[.int .i64 kind, .int .i64 fr, .int .i64 to, .int .i64 a, .int .i64 c] 39 := hw7 ▸ HX.out
            clear hw1 hw7 HM HX d0 d1 d2 d3 d4
            generalize wq.heap.size = ob at *
            obtain ⟨i, rfl⟩ : ∃ i : Nat, iI = (i : Int) := ⟨iI.toNat, by omega⟩
            obtain ⟨ha, sa, hha, hsa, hBa, hoka, hca, hLa⟩ := hM.get (i := i) (by omega)
            have c1 := hM.cell hha
            have x0 : W7.cell? ⟨ob, 0, none⟩ = some (.int .i64 kind) := hX.cell 0
            have x2 : W7.cell? ⟨ob, 2, none⟩ = some (.int .i64 to) := hX.cell 2
            have hin : (i : Int) < (n : Int) := by omega
            have hw1 := within_any to 0 ((n : Int) - 1) W7 u2 (by omega) (by omega) (by omega)
            have HM : Hid _ := hM
            have HX : Hid _ := hX
            clear hM hX hBa
            go_wp2_with fail
            refine hw1.mono ?_
            rintro e8 W8 ⟨⟨jI, rfl, hj0, hj1⟩, hw8⟩
            have hM : CM W.heap.size g hs ls lim W W8 := hw8 ▸ HM.out
            have hX : Blk W8 ob #[.int .i64 kind, .int .i64 fr, .int .i64 to, .int .i64 a, .int .i64 c] 39 := hw8 ▸ HX.out
            clear hw1 hw8 HM HX c1 x0 x2
            obtain ⟨j, rfl⟩ : ∃ j : Nat, jI = (j : Int) := ⟨jI.toNat, by omega⟩
            obtain ⟨hbb, sb, hhb, hsb, hBb, hokb, hcb, hLb⟩ := hM.get (i := j) (by omega)
            have c1 := hM.cell hhb
            have x0 : W8.cell? ⟨ob, 0, none⟩ = some (.int .i64 kind) := hX.cell 0
            have hjn : (j : Int) < (n : Int) := by omega
            have hw1 := within_any kind 0 2 W8 u0 (by omega) (by omega) (by omega)
            have HM : Hid _ := hM
            have HX : Hid _ := hX
            clear hM hX hBb hsb hokb hcb sb
            go_wp2_with fail
            refine hw1.mono ?_
            rintro e9 W9 ⟨⟨kk, rfl, hk0, hk2⟩, hw9⟩
            have hM : CM W.heap.size g hs ls lim W W9 := hw9 ▸ HM.out
            have hX : Blk W9 ob #[.int .i64 kind, .int .i64 fr, .int .i64 to, .int .i64 a, .int .i64 c] 39 := hw9 ▸ HX.out
            clear hw1 hw9 HM HX c1 x0 u0 u1 u2
            have hCS : CS ls lim val := HCS.out
            clear HCS
            have hBa := (hM.at_ i ha sa hha hsa).1
            by_cases k0 : kk = 0
            · have g0 : (kk == 0) = true := by simpa using k0
              clear k0
              have hh := allOut_any _ hBa
              have HM : Hid _ := hM
              clear hM hBa
              go_wp2_with fail
              refine hh.mono ?_
              rintro e10 W10 ⟨rfl, hB10, hT10⟩
              have hM := HM.out.step hha hsa hB10 (sa.bare_ok hoka) hca hT10
              clear hh hB10 hT10 HM
              have t1 : fsum LS.all (ls.set i sa.bare) = lim - (sa.d + sa.u) := by rw [fsum_set _ _ _ _ _ hsa, hCS.tot]; simp only [LS.all, LS.bare]; omega
              have t2 : fsum LS.d (ls.set i sa.bare) = val - sa.d := by rw [fsum_set _ _ _ _ _ hsa, hCS.dn]; simp only [LS.bare]; omega
              obtain ⟨hb1, s1, hhb1, hs1, hB1, hok1, hc1, hL1⟩ := hM.get (i := j) (by omega)
              obtain rfl : hbb = hb1 := by rw [hhb] at hhb1; exact Option.some.inj hhb1
              obtain ⟨i1, i2, i3, i4⟩ := into (a := sa.d) (b := sa.u) hM.oks t1 (by omega) hoka.d0 hoka.u0 hs1
              have hbu := hoka.d0
              have hbv := hoka.u0
              have hbw := hoka.h0
              have hbx := hoka.sum
              have hby := hoka.c2
              have hh := in_any _ (HS.out.below hM.q) hB1 hok1 hLb sa.d sa.u (by rw [IntKind.wrap_i64]; omega) (by rw [IntKind.wrap_i64]; omega)
              rw [i1] at hh
              have HM : Hid _ := hM
              clear hM hB1 hhb1 i2 i1 hbu hbv hbw hbx hby
              go_wp2_with fail
              refine hh.mono ?_
              rintro e11 W11 ⟨rfl, hB11, hT11⟩
              have hM := HM.out.step hhb hs1 hB11 (s1.inext_ok hok1 _ _) (by have := hc1; unfold LS.inext; split <;> exact this) hT11
              replace hCS : CS ((ls.set i sa.bare).set j (s1.inext sa.d sa.u)) lim val := ⟨i3, by rw [i4, t2]; omega⟩
              clear hh hB11 hT11 HM i3 i4 t1 t2 hs1 hok1 hc1 hL1
              generalize hlz : (ls.set i sa.bare).set j (s1.inext sa.d sa.u) = lz at hM hCS
              clear hlz
              have HM : Hid _ := hM
              have HCS : Hid _ := hCS
              clear hM hCS
              go_wp2_with fail
              go_loopw [25, 26, 27] (fun (tt : Value) (dd : Value) (i : Value) (wz : World) => ∃ m : Nat, m ≤ n ∧ i = .int .i64 m ∧ tt = .int .i64 (fsum LS.all (lz.take m)) ∧ dd = .int .i64 (fsum LS.d (lz.take m)) ∧ CM W.heap.size g hs lz lim W wz) (fun _ _ i _ => n - (intOf i).toNat)
              case atStart => exact ⟨0, Nat.zero_le _, rfl, rfl, rfl, HM.out⟩
              case round =>
                obtain ⟨m, hm, rfl, rfl, rfl, hM⟩ := hrel
                rename World => wz
                clear HM
                have hbd := CS.bounds HCS.out hM hl2 m
                have hbd2 := CS.bounds HCS.out hM hl2 (m + 1)
                by_cases hmn : m < n
                · as_aux_lemma =>
                    obtain ⟨hz, sz, hhz, hsz, hBz, hokz, hcz, hLz⟩ := hM.get (i := m) (by omega)
                    have t1 := fsum_take LS.all lz m sz hsz
                    have t2 := fsum_take LS.d lz m sz hsz
                    rw [t1, t2] at hbd2
                    have HT1 : Hid _ := t1
                    have HT2 : Hid _ := t2
                    clear t1 t2
                    have c1 := hM.cell hhz
                    have hmi : (m : Int) < (n : Int) := by omega
                    have hsm := sum_any _ hBz hokz
                    have HM : Hid _ := hM
                    clear hM hBz
                    generalize fsum LS.all (lz.take m) = ta at *
                    generalize fsum LS.d (lz.take m) = tb at *
                    have q1 : IntKind.i64.wrap (ta + sz.all) = ta + sz.all := by rw [IntKind.wrap_i64]; omega
                    have q2 : IntKind.i64.wrap (tb + sz.d) = tb + sz.d := by rw [IntKind.wrap_i64]; omega
                    go_wp2_with fail
                    refine hsm.mono ?_
                    rintro ez wz1 ⟨rfl, hbz⟩
                    have hM := HM.out.more hbz
                    have c1 := hM.cell hhz
                    have hrz := rights_any _ (hM.at_ m hz sz hhz hsz).1
                    clear HM hsm hbz
                    have HM : Hid _ := hM
                    clear hM
                    have f0 := field0
                    go_wp2_with fail
                    refine hrz.mono ?_
                    rintro ez2 wz2 ⟨rfl, hbz⟩
                    have hM := HM.out.more hbz
                    have HM2 : Hid _ := hM
                    clear hM hrz hbz c1 HM
                    go_wp2_with fail
                    go_roundw
                    case rel => exact ⟨m + 1, by omega, by go_num, by rw [HT1.out], by rw [HT2.out], HM2.out⟩
                    case measure => simp [intOf]; omega
                · as_aux_lemma =>
                    obtain rfl : n = m := by omega
                    have htk : lz.take n = lz := List.take_of_length_le (by rw [hM.len]; omega)
                    rw [htk, HCS.out.tot, HCS.out.dn]
                    have HR2 : Hid (CR S W.heap.size g hs lim W wz (val)) := ⟨_, hM, HCS.out⟩
                    have hv0 : 0 ≤ (val) := hbd.2.2.1
                    clear htk hM HCS hbd hbd2
                    go_wp2_with fail
                    go_roundw
                    case rel => exact ⟨k + 1, by omega, by go_num, _, rfl, HR2.out⟩
                    case measure => simp [intOf]; omega
            · have g0 : (kk == 0) = false := by simpa using k0
              by_cases k1 : kk = 1
              · have g1 : (kk == 1) = true := by simpa using k1
                clear k0 k1
                have hgr9 : Below W9.heap.size W9 (W9.alloc (.cells #[.int .i64 a, .int .i64 c] 29)) := by go_grown
                have hN9 : Blk (W9.alloc (.cells #[.int .i64 a, .int .i64 c] 29)) W9.heap.size #[.int .i64 a, .int .i64 c] 29 := heap_alloc_new W9 _
                replace hM := hM.more hgr9
                replace hBa := (hM.at_ i ha sa hha hsa).1
                have n0 := x0_of hN9
                have n1 := x1_of hN9
                have x3 : W9.cell? ⟨ob, 3, none⟩ = some (.int .i64 a) := hX.cell 3
                have x4 : W9.cell? ⟨ob, 4, none⟩ = some (.int .i64 c) := hX.cell 4
                have hh := out_any _ (HS.out.below hM.q) hBa hoka hLa a c
                have HM : Hid _ := hM
                have HN9 : Hid _ := hN9
                clear hM hBa hgr9 hN9
                by_cases hz : sa.ocode a c = 0
                · have hpo := (sa.d7 hoka a c (by exact hz))
                  have eo : sa.onext a c = { sa with d := sa.d - a, u := sa.u - c } := by unfold LS.onext; rw [if_pos hz]
                  rw [hz] at hh
                  go_wp2_with fail
                  refine hh.mono ?_
                  rintro e10 W10 ⟨rfl, hB10, hT10⟩
                  have hM := HM.out.step hha hsa hB10 (sa.onext_ok hoka a c) (by rw [eo]; exact hca) hT10
                  have hN10 := hT10.blk HN9.out (blk_ne HN9.out (HM.out.at_ i ha sa hha hsa).1 (by decide))
                  clear hh hB10 hT10 HM HN9 n0 n1 x3 x4
                  have n0 := x0_of hN10
                  have n1 := x1_of hN10
                  have t1 : fsum LS.all (ls.set i (sa.onext a c)) = lim - (a + c) := by rw [fsum_set _ _ _ _ _ hsa, hCS.tot, eo]; simp only [LS.all]; omega
                  have t2 : fsum LS.d (ls.set i (sa.onext a c)) = val - a := by rw [fsum_set _ _ _ _ _ hsa, hCS.dn, eo]; simp only; omega
                  obtain ⟨hb1, s1, hhb1, hs1, hB1, hok1, hc1, hL1⟩ := hM.get (i := j) (by omega)
                  obtain rfl : hbb = hb1 := by rw [hhb] at hhb1; exact Option.some.inj hhb1
                  obtain ⟨i1, i2, i3, i4⟩ := into (a := a) (b := c) hM.oks t1 (by omega) hpo.2.2.2.1 hpo.2.2.2.2.1 hs1
                  have hh := in_any _ (HS.out.below hM.q) hB1 hok1 hLb a c u3 u4
                  rw [i1] at hh
                  have HM : Hid _ := hM
                  clear hM hB1 hhb1 i2 i1 hpo hN10 hz
                  go_wp2_with fail
                  refine hh.mono ?_
                  rintro e11 W11 ⟨rfl, hB11, hT11⟩
                  have hM := HM.out.step hhb hs1 hB11 (s1.inext_ok hok1 _ _) (by have := hc1; unfold LS.inext; split <;> exact this) hT11
                  replace hCS : CS ((ls.set i (sa.onext a c)).set j (s1.inext a c)) lim val := ⟨i3, by rw [i4, t2]; omega⟩
                  clear hh hB11 hT11 HM i3 i4 t1 t2 hs1 hok1 hc1 hL1 n0 n1 eo
                  generalize hlz : (ls.set i (sa.onext a c)).set j (s1.inext a c) = lz at hM hCS
                  clear hlz
                  have HM : Hid _ := hM
                  have HCS : Hid _ := hCS
                  clear hM hCS
                  go_wp2_with fail
                  go_loopw [25, 26, 27] (fun (tt : Value) (dd : Value) (i : Value) (wz : World) => ∃ m : Nat, m ≤ n ∧ i = .int .i64 m ∧ tt = .int .i64 (fsum LS.all (lz.take m)) ∧ dd = .int .i64 (fsum LS.d (lz.take m)) ∧ CM W.heap.size g hs lz lim W wz) (fun _ _ i _ => n - (intOf i).toNat)
                  case atStart => exact ⟨0, Nat.zero_le _, rfl, rfl, rfl, HM.out⟩
                  case round =>
                    obtain ⟨m, hm, rfl, rfl, rfl, hM⟩ := hrel
                    rename World => wz
                    clear HM
                    have hbd := CS.bounds HCS.out hM hl2 m
                    have hbd2 := CS.bounds HCS.out hM hl2 (m + 1)
                    by_cases hmn : m < n
                    · as_aux_lemma =>
                        obtain ⟨hz, sz, hhz, hsz, hBz, hokz, hcz, hLz⟩ := hM.get (i := m) (by omega)
                        have t1 := fsum_take LS.all lz m sz hsz
                        have t2 := fsum_take LS.d lz m sz hsz
                        rw [t1, t2] at hbd2
                        have HT1 : Hid _ := t1
                        have HT2 : Hid _ := t2
                        clear t1 t2
                        have c1 := hM.cell hhz
                        have hmi : (m : Int) < (n : Int) := by omega
                        have hsm := sum_any _ hBz hokz
                        have HM : Hid _ := hM
                        clear hM hBz
                        generalize fsum LS.all (lz.take m) = ta at *
                        generalize fsum LS.d (lz.take m) = tb at *
                        have q1 : IntKind.i64.wrap (ta + sz.all) = ta + sz.all := by rw [IntKind.wrap_i64]; omega
                        have q2 : IntKind.i64.wrap (tb + sz.d) = tb + sz.d := by rw [IntKind.wrap_i64]; omega
                        go_wp2_with fail
                        refine hsm.mono ?_
                        rintro ez wz1 ⟨rfl, hbz⟩
                        have hM := HM.out.more hbz
                        have c1 := hM.cell hhz
                        have hrz := rights_any _ (hM.at_ m hz sz hhz hsz).1
                        clear HM hsm hbz
                        have HM : Hid _ := hM
                        clear hM
                        have f0 := field0
                        go_wp2_with fail
                        refine hrz.mono ?_
                        rintro ez2 wz2 ⟨rfl, hbz⟩
                        have hM := HM.out.more hbz
                        have HM2 : Hid _ := hM
                        clear hM hrz hbz c1 HM
                        go_wp2_with fail
                        go_roundw
                        case rel => exact ⟨m + 1, by omega, by go_num, by rw [HT1.out], by rw [HT2.out], HM2.out⟩
                        case measure => simp [intOf]; omega
                    · as_aux_lemma =>
                        obtain rfl : n = m := by omega
                        have htk : lz.take n = lz := List.take_of_length_le (by rw [hM.len]; omega)
                        rw [htk, HCS.out.tot, HCS.out.dn]
                        have HR2 : Hid (CR S W.heap.size g hs lim W wz (val)) := ⟨_, hM, HCS.out⟩
                        have hv0 : 0 ≤ (val) := hbd.2.2.1
                        clear htk hM HCS hbd hbd2
                        go_wp2_with fail
                        go_roundw
                        case rel => exact ⟨k + 1, by omega, by go_num, _, rfl, HR2.out⟩
                        case measure => simp [intOf]; omega
                · have eo : sa.onext a c = sa := by unfold LS.onext; rw [if_neg hz]
                  rw [eo] at hh
                  have gz : (sa.ocode a c == 0) = false := by simpa using hz
                  generalize sa.ocode a c = ec at *
                  clear hz eo
                  go_wp2_with fail
                  refine hh.mono ?_
                  rintro e10 W10 ⟨rfl, hB10, hT10⟩
                  have hM := HM.out.step hha hsa hB10 hoka hca hT10
                  rw [set_same hsa] at hM
                  clear hh hB10 hT10 HM HN9 n0 n1 x3 x4
                  obtain ⟨lz, hlz⟩ : ∃ lz, lz = ls := ⟨_, rfl⟩
                  rw [← hlz] at hM hCS
                  clear hlz
                  have HM : Hid _ := hM
                  have HCS : Hid _ := hCS
                  clear hM hCS
                  go_wp2_with fail
                  go_loopw [25, 26, 27] (fun (tt : Value) (dd : Value) (i : Value) (wz : World) => ∃ m : Nat, m ≤ n ∧ i = .int .i64 m ∧ tt = .int .i64 (fsum LS.all (lz.take m)) ∧ dd = .int .i64 (fsum LS.d (lz.take m)) ∧ CM W.heap.size g hs lz lim W wz) (fun _ _ i _ => n - (intOf i).toNat)
                  case atStart => exact ⟨0, Nat.zero_le _, rfl, rfl, rfl, HM.out⟩
                  case round =>
                    obtain ⟨m, hm, rfl, rfl, rfl, hM⟩ := hrel
                    rename World => wz
                    clear HM
                    have hbd := CS.bounds HCS.out hM hl2 m
                    have hbd2 := CS.bounds HCS.out hM hl2 (m + 1)
                    by_cases hmn : m < n
                    · as_aux_lemma =>
                        obtain ⟨hz, sz, hhz, hsz, hBz, hokz, hcz, hLz⟩ := hM.get (i := m) (by omega)
                        have t1 := fsum_take LS.all lz m sz hsz
                        have t2 := fsum_take LS.d lz m sz hsz
                        rw [t1, t2] at hbd2
                        have HT1 : Hid _ := t1
                        have HT2 : Hid _ := t2
                        clear t1 t2
                        have c1 := hM.cell hhz
                        have hmi : (m : Int) < (n : Int) := by omega
                        have hsm := sum_any _ hBz hokz
                        have HM : Hid _ := hM
                        clear hM hBz
                        generalize fsum LS.all (lz.take m) = ta at *
                        generalize fsum LS.d (lz.take m) = tb at *
                        have q1 : IntKind.i64.wrap (ta + sz.all) = ta + sz.all := by rw [IntKind.wrap_i64]; omega
                        have q2 : IntKind.i64.wrap (tb + sz.d) = tb + sz.d := by rw [IntKind.wrap_i64]; omega
                        go_wp2_with fail
                        refine hsm.mono ?_
                        rintro ez wz1 ⟨rfl, hbz⟩
                        have hM := HM.out.more hbz
                        have c1 := hM.cell hhz
                        have hrz := rights_any _ (hM.at_ m hz sz hhz hsz).1
                        clear HM hsm hbz
                        have HM : Hid _ := hM
                        clear hM
                        have f0 := field0
                        go_wp2_with fail
                        refine hrz.mono ?_
                        rintro ez2 wz2 ⟨rfl, hbz⟩
                        have hM := HM.out.more hbz
                        have HM2 : Hid _ := hM
                        clear hM hrz hbz c1 HM
                        go_wp2_with fail
                        go_roundw
                        case rel => exact ⟨m + 1, by omega, by go_num, by rw [HT1.out], by rw [HT2.out], HM2.out⟩
                        case measure => simp [intOf]; omega
                    · as_aux_lemma =>
                        obtain rfl : n = m := by omega
                        have htk : lz.take n = lz := List.take_of_length_le (by rw [hM.len]; omega)
                        rw [htk, HCS.out.tot, HCS.out.dn]
                        have HR2 : Hid (CR S W.heap.size g hs lim W wz (val)) := ⟨_, hM, HCS.out⟩
                        have hv0 : 0 ≤ (val) := hbd.2.2.1
                        clear htk hM HCS hbd hbd2
                        go_wp2_with fail
                        go_roundw
                        case rel => exact ⟨k + 1, by omega, by go_num, _, rfl, HR2.out⟩
                        case measure => simp [intOf]; omega
              · have k2 : kk = 2 := by omega
                have g1 : (kk == 1) = false := by simpa using k1
                have g2 : (kk == 2) = true := by simpa using k2
                clear k0 k1 k2
                have x3 : W9.cell? ⟨ob, 3, none⟩ = some (.int .i64 a) := hX.cell 3
                have hw1 := within_any a 1 5 W9 u3 (by omega) (by omega) (by omega)
                have HM : Hid _ := hM
                have HX : Hid _ := hX
                clear hM hX hBa
                go_wp2_with fail
                refine hw1.mono ?_
                rintro e10 W10 ⟨⟨kd, rfl, hkd1, hkd5⟩, hw10⟩
                have hM : CM W.heap.size g hs ls lim W W10 := hw10 ▸ HM.out
                have hX : Blk W10 ob #[.int .i64 kind, .int .i64 fr, .int .i64 to, .int .i64 a, .int .i64 c] 39 := hw10 ▸ HX.out
                clear hw1 hw10 HM HX x3
                have hBa := (hM.at_ i ha sa hha hsa).1
                have x4 : W10.cell? ⟨ob, 4, none⟩ = some (.int .i64 c) := hX.cell 4
                have hh := turned_any _ (HS.out.below hM.q) hBa hoka hLa kd c
                have HM : Hid _ := hM
                have HX : Hid _ := hX
                clear hM hX
                by_cases hz : sa.tcode (fromOf kd) c = 0
                · have hts := turned_sums kd c ⟨hkd1, hkd5⟩ hsa hz
                  have hcb := tcode0_amt hz
                  have hcc : (sa.tnext (fromOf kd) (toOf kd) c).c = lim := by unfold LS.tnext; rw [if_pos hz]; exact (sa.mv_all _ _ (from_lt kd) (to_lt kd) (fromto kd) c).2.1.trans hca
                  have hokn := sa.tnext_ok hoka _ _ (from_lt kd) (to_lt kd) (fromto kd) c
                  have hbv := CS.bounds hCS HM.out hl2 0
                  rw [hz] at hh
                  clear hz hBa
                  go_wp2_with fail
                  refine hh.mono ?_
                  rintro e11 W11 ⟨rfl, hB11, hT11⟩
                  have hM := HM.out.step hha hsa hB11 hokn hcc hT11
                  have hX := hT11.blk HX.out (blk_ne HX.out (HM.out.at_ i ha sa hha hsa).1 (by decide))
                  clear hh hB11 hT11 HM HX x4
                  have x4 : W11.cell? ⟨ob, 4, none⟩ = some (.int .i64 c) := hX.cell 4
                  rw [hCS.tot, hCS.dn] at hts
                  clear hCS hX hokn hcc
                  by_cases q1 : kd = 1
                  · have hCS : CS (ls.set i (sa.tnext (fromOf kd) (toOf kd) c)) lim (val - c) := ⟨hts.1, by have h2 := hts.2; rw [h2]; subst q1; simp <;> omega⟩
                    have p1 : (kd == 1) = true := by simp; omega
                    have p2 : (kd == 2) = false := by simp; omega
                    have p3 : (kd == 3) = false := by simp; omega
                    have p4 : (kd == 4) = false := by simp; omega
                    have ev : IntKind.i64.wrap (val - c) = val - c := by rw [IntKind.wrap_i64]; omega
                    clear hts hbv q1 hkd1 hkd5
                    generalize hlz : ls.set i (sa.tnext (fromOf kd) (toOf kd) c) = lz at hM hCS
                    clear hlz
                    have HM : Hid _ := hM
                    have HCS : Hid _ := hCS
                    clear hM hCS
                    go_wp2_with fail
                    go_loopw [25, 26, 27] (fun (tt : Value) (dd : Value) (i : Value) (wz : World) => ∃ m : Nat, m ≤ n ∧ i = .int .i64 m ∧ tt = .int .i64 (fsum LS.all (lz.take m)) ∧ dd = .int .i64 (fsum LS.d (lz.take m)) ∧ CM W.heap.size g hs lz lim W wz) (fun _ _ i _ => n - (intOf i).toNat)
                    case atStart => exact ⟨0, Nat.zero_le _, rfl, rfl, rfl, HM.out⟩
                    case round =>
                      obtain ⟨m, hm, rfl, rfl, rfl, hM⟩ := hrel
                      rename World => wz
                      clear HM
                      have hbd := CS.bounds HCS.out hM hl2 m
                      have hbd2 := CS.bounds HCS.out hM hl2 (m + 1)
                      by_cases hmn : m < n
                      · as_aux_lemma =>
                          obtain ⟨hz, sz, hhz, hsz, hBz, hokz, hcz, hLz⟩ := hM.get (i := m) (by omega)
                          have t1 := fsum_take LS.all lz m sz hsz
                          have t2 := fsum_take LS.d lz m sz hsz
                          rw [t1, t2] at hbd2
                          have HT1 : Hid _ := t1
                          have HT2 : Hid _ := t2
                          clear t1 t2
                          have c1 := hM.cell hhz
                          have hmi : (m : Int) < (n : Int) := by omega
                          have hsm := sum_any _ hBz hokz
                          have HM : Hid _ := hM
                          clear hM hBz
                          generalize fsum LS.all (lz.take m) = ta at *
                          generalize fsum LS.d (lz.take m) = tb at *
                          have q1 : IntKind.i64.wrap (ta + sz.all) = ta + sz.all := by rw [IntKind.wrap_i64]; omega
                          have q2 : IntKind.i64.wrap (tb + sz.d) = tb + sz.d := by rw [IntKind.wrap_i64]; omega
                          go_wp2_with fail
                          refine hsm.mono ?_
                          rintro ez wz1 ⟨rfl, hbz⟩
                          have hM := HM.out.more hbz
                          have c1 := hM.cell hhz
                          have hrz := rights_any _ (hM.at_ m hz sz hhz hsz).1
                          clear HM hsm hbz
                          have HM : Hid _ := hM
                          clear hM
                          have f0 := field0
                          go_wp2_with fail
                          refine hrz.mono ?_
                          rintro ez2 wz2 ⟨rfl, hbz⟩
                          have hM := HM.out.more hbz
                          have HM2 : Hid _ := hM
                          clear hM hrz hbz c1 HM
                          go_wp2_with fail
                          go_roundw
                          case rel => exact ⟨m + 1, by omega, by go_num, by rw [HT1.out], by rw [HT2.out], HM2.out⟩
                          case measure => simp [intOf]; omega
                      · as_aux_lemma =>
                          obtain rfl : n = m := by omega
                          have htk : lz.take n = lz := List.take_of_length_le (by rw [hM.len]; omega)
                          rw [htk, HCS.out.tot, HCS.out.dn]
                          have HR2 : Hid (CR S W.heap.size g hs lim W wz (val - c)) := ⟨_, hM, HCS.out⟩
                          have hv0 : 0 ≤ (val - c) := hbd.2.2.1
                          clear htk hM HCS hbd hbd2
                          go_wp2_with fail
                          go_roundw
                          case rel => exact ⟨k + 1, by omega, by go_num, _, rfl, HR2.out⟩
                          case measure => simp [intOf]; omega
                  · by_cases q2 : kd = 2
                    · have hCS : CS (ls.set i (sa.tnext (fromOf kd) (toOf kd) c)) lim (val + c) := ⟨hts.1, by have h2 := hts.2; rw [h2]; subst q2; simp <;> omega⟩
                      have p1 : (kd == 1) = false := by simp; omega
                      have p2 : (kd == 2) = true := by simp; omega
                      have p3 : (kd == 3) = false := by simp; omega
                      have p4 : (kd == 4) = false := by simp; omega
                      have ev : IntKind.i64.wrap (val + c) = val + c := by rw [IntKind.wrap_i64]; omega
                      clear hts hbv q1 q2 hkd1 hkd5
                      generalize hlz : ls.set i (sa.tnext (fromOf kd) (toOf kd) c) = lz at hM hCS
                      clear hlz
                      have HM : Hid _ := hM
                      have HCS : Hid _ := hCS
                      clear hM hCS
                      go_wp2_with fail
                      go_loopw [25, 26, 27] (fun (tt : Value) (dd : Value) (i : Value) (wz : World) => ∃ m : Nat, m ≤ n ∧ i = .int .i64 m ∧ tt = .int .i64 (fsum LS.all (lz.take m)) ∧ dd = .int .i64 (fsum LS.d (lz.take m)) ∧ CM W.heap.size g hs lz lim W wz) (fun _ _ i _ => n - (intOf i).toNat)
                      case atStart => exact ⟨0, Nat.zero_le _, rfl, rfl, rfl, HM.out⟩
                      case round =>
                        obtain ⟨m, hm, rfl, rfl, rfl, hM⟩ := hrel
                        rename World => wz
                        clear HM
                        have hbd := CS.bounds HCS.out hM hl2 m
                        have hbd2 := CS.bounds HCS.out hM hl2 (m + 1)
                        by_cases hmn : m < n
                        · as_aux_lemma =>
                            obtain ⟨hz, sz, hhz, hsz, hBz, hokz, hcz, hLz⟩ := hM.get (i := m) (by omega)
                            have t1 := fsum_take LS.all lz m sz hsz
                            have t2 := fsum_take LS.d lz m sz hsz
                            rw [t1, t2] at hbd2
                            have HT1 : Hid _ := t1
                            have HT2 : Hid _ := t2
                            clear t1 t2
                            have c1 := hM.cell hhz
                            have hmi : (m : Int) < (n : Int) := by omega
                            have hsm := sum_any _ hBz hokz
                            have HM : Hid _ := hM
                            clear hM hBz
                            generalize fsum LS.all (lz.take m) = ta at *
                            generalize fsum LS.d (lz.take m) = tb at *
                            have q1 : IntKind.i64.wrap (ta + sz.all) = ta + sz.all := by rw [IntKind.wrap_i64]; omega
                            have q2 : IntKind.i64.wrap (tb + sz.d) = tb + sz.d := by rw [IntKind.wrap_i64]; omega
                            go_wp2_with fail
                            refine hsm.mono ?_
                            rintro ez wz1 ⟨rfl, hbz⟩
                            have hM := HM.out.more hbz
                            have c1 := hM.cell hhz
                            have hrz := rights_any _ (hM.at_ m hz sz hhz hsz).1
                            clear HM hsm hbz
                            have HM : Hid _ := hM
                            clear hM
                            have f0 := field0
                            go_wp2_with fail
                            refine hrz.mono ?_
                            rintro ez2 wz2 ⟨rfl, hbz⟩
                            have hM := HM.out.more hbz
                            have HM2 : Hid _ := hM
                            clear hM hrz hbz c1 HM
                            go_wp2_with fail
                            go_roundw
                            case rel => exact ⟨m + 1, by omega, by go_num, by rw [HT1.out], by rw [HT2.out], HM2.out⟩
                            case measure => simp [intOf]; omega
                        · as_aux_lemma =>
                            obtain rfl : n = m := by omega
                            have htk : lz.take n = lz := List.take_of_length_le (by rw [hM.len]; omega)
                            rw [htk, HCS.out.tot, HCS.out.dn]
                            have HR2 : Hid (CR S W.heap.size g hs lim W wz (val + c)) := ⟨_, hM, HCS.out⟩
                            have hv0 : 0 ≤ (val + c) := hbd.2.2.1
                            clear htk hM HCS hbd hbd2
                            go_wp2_with fail
                            go_roundw
                            case rel => exact ⟨k + 1, by omega, by go_num, _, rfl, HR2.out⟩
                            case measure => simp [intOf]; omega
                    · by_cases q3 : kd = 3
                      · have hCS : CS (ls.set i (sa.tnext (fromOf kd) (toOf kd) c)) lim (val - c) := ⟨hts.1, by have h2 := hts.2; rw [h2]; subst q3; simp <;> omega⟩
                        have p1 : (kd == 1) = false := by simp; omega
                        have p2 : (kd == 2) = false := by simp; omega
                        have p3 : (kd == 3) = true := by simp; omega
                        have p4 : (kd == 4) = false := by simp; omega
                        have ev : IntKind.i64.wrap (val - c) = val - c := by rw [IntKind.wrap_i64]; omega
                        clear hts hbv q1 q2 q3 hkd1 hkd5
                        generalize hlz : ls.set i (sa.tnext (fromOf kd) (toOf kd) c) = lz at hM hCS
                        clear hlz
                        have HM : Hid _ := hM
                        have HCS : Hid _ := hCS
                        clear hM hCS
                        go_wp2_with fail
                        go_loopw [25, 26, 27] (fun (tt : Value) (dd : Value) (i : Value) (wz : World) => ∃ m : Nat, m ≤ n ∧ i = .int .i64 m ∧ tt = .int .i64 (fsum LS.all (lz.take m)) ∧ dd = .int .i64 (fsum LS.d (lz.take m)) ∧ CM W.heap.size g hs lz lim W wz) (fun _ _ i _ => n - (intOf i).toNat)
                        case atStart => exact ⟨0, Nat.zero_le _, rfl, rfl, rfl, HM.out⟩
                        case round =>
                          obtain ⟨m, hm, rfl, rfl, rfl, hM⟩ := hrel
                          rename World => wz
                          clear HM
                          have hbd := CS.bounds HCS.out hM hl2 m
                          have hbd2 := CS.bounds HCS.out hM hl2 (m + 1)
                          by_cases hmn : m < n
                          · as_aux_lemma =>
                              obtain ⟨hz, sz, hhz, hsz, hBz, hokz, hcz, hLz⟩ := hM.get (i := m) (by omega)
                              have t1 := fsum_take LS.all lz m sz hsz
                              have t2 := fsum_take LS.d lz m sz hsz
                              rw [t1, t2] at hbd2
                              have HT1 : Hid _ := t1
                              have HT2 : Hid _ := t2
                              clear t1 t2
                              have c1 := hM.cell hhz
                              have hmi : (m : Int) < (n : Int) := by omega
                              have hsm := sum_any _ hBz hokz
                              have HM : Hid _ := hM
                              clear hM hBz
                              generalize fsum LS.all (lz.take m) = ta at *
                              generalize fsum LS.d (lz.take m) = tb at *
                              have q1 : IntKind.i64.wrap (ta + sz.all) = ta + sz.all := by rw [IntKind.wrap_i64]; omega
                              have q2 : IntKind.i64.wrap (tb + sz.d) = tb + sz.d := by rw [IntKind.wrap_i64]; omega
                              go_wp2_with fail
                              refine hsm.mono ?_
                              rintro ez wz1 ⟨rfl, hbz⟩
                              have hM := HM.out.more hbz
                              have c1 := hM.cell hhz
                              have hrz := rights_any _ (hM.at_ m hz sz hhz hsz).1
                              clear HM hsm hbz
                              have HM : Hid _ := hM
                              clear hM
                              have f0 := field0
                              go_wp2_with fail
                              refine hrz.mono ?_
                              rintro ez2 wz2 ⟨rfl, hbz⟩
                              have hM := HM.out.more hbz
                              have HM2 : Hid _ := hM
                              clear hM hrz hbz c1 HM
                              go_wp2_with fail
                              go_roundw
                              case rel => exact ⟨m + 1, by omega, by go_num, by rw [HT1.out], by rw [HT2.out], HM2.out⟩
                              case measure => simp [intOf]; omega
                          · as_aux_lemma =>
                              obtain rfl : n = m := by omega
                              have htk : lz.take n = lz := List.take_of_length_le (by rw [hM.len]; omega)
                              rw [htk, HCS.out.tot, HCS.out.dn]
                              have HR2 : Hid (CR S W.heap.size g hs lim W wz (val - c)) := ⟨_, hM, HCS.out⟩
                              have hv0 : 0 ≤ (val - c) := hbd.2.2.1
                              clear htk hM HCS hbd hbd2
                              go_wp2_with fail
                              go_roundw
                              case rel => exact ⟨k + 1, by omega, by go_num, _, rfl, HR2.out⟩
                              case measure => simp [intOf]; omega
                      · by_cases q4 : kd = 4
                        · have hCS : CS (ls.set i (sa.tnext (fromOf kd) (toOf kd) c)) lim (val + c) := ⟨hts.1, by have h2 := hts.2; rw [h2]; subst q4; simp <;> omega⟩
                          have p1 : (kd == 1) = false := by simp; omega
                          have p2 : (kd == 2) = false := by simp; omega
                          have p3 : (kd == 3) = false := by simp; omega
                          have p4 : (kd == 4) = true := by simp; omega
                          have ev : IntKind.i64.wrap (val + c) = val + c := by rw [IntKind.wrap_i64]; omega
                          clear hts hbv q1 q2 q3 q4 hkd1 hkd5
                          generalize hlz : ls.set i (sa.tnext (fromOf kd) (toOf kd) c) = lz at hM hCS
                          clear hlz
                          have HM : Hid _ := hM
                          have HCS : Hid _ := hCS
                          clear hM hCS
                          go_wp2_with fail
                          go_loopw [25, 26, 27] (fun (tt : Value) (dd : Value) (i : Value) (wz : World) => ∃ m : Nat, m ≤ n ∧ i = .int .i64 m ∧ tt = .int .i64 (fsum LS.all (lz.take m)) ∧ dd = .int .i64 (fsum LS.d (lz.take m)) ∧ CM W.heap.size g hs lz lim W wz) (fun _ _ i _ => n - (intOf i).toNat)
                          case atStart => exact ⟨0, Nat.zero_le _, rfl, rfl, rfl, HM.out⟩
                          case round =>
                            obtain ⟨m, hm, rfl, rfl, rfl, hM⟩ := hrel
                            rename World => wz
                            clear HM
                            have hbd := CS.bounds HCS.out hM hl2 m
                            have hbd2 := CS.bounds HCS.out hM hl2 (m + 1)
                            by_cases hmn : m < n
                            · as_aux_lemma =>
                                obtain ⟨hz, sz, hhz, hsz, hBz, hokz, hcz, hLz⟩ := hM.get (i := m) (by omega)
                                have t1 := fsum_take LS.all lz m sz hsz
                                have t2 := fsum_take LS.d lz m sz hsz
                                rw [t1, t2] at hbd2
                                have HT1 : Hid _ := t1
                                have HT2 : Hid _ := t2
                                clear t1 t2
                                have c1 := hM.cell hhz
                                have hmi : (m : Int) < (n : Int) := by omega
                                have hsm := sum_any _ hBz hokz
                                have HM : Hid _ := hM
                                clear hM hBz
                                generalize fsum LS.all (lz.take m) = ta at *
                                generalize fsum LS.d (lz.take m) = tb at *
                                have q1 : IntKind.i64.wrap (ta + sz.all) = ta + sz.all := by rw [IntKind.wrap_i64]; omega
                                have q2 : IntKind.i64.wrap (tb + sz.d) = tb + sz.d := by rw [IntKind.wrap_i64]; omega
                                go_wp2_with fail
                                refine hsm.mono ?_
                                rintro ez wz1 ⟨rfl, hbz⟩
                                have hM := HM.out.more hbz
                                have c1 := hM.cell hhz
                                have hrz := rights_any _ (hM.at_ m hz sz hhz hsz).1
                                clear HM hsm hbz
                                have HM : Hid _ := hM
                                clear hM
                                have f0 := field0
                                go_wp2_with fail
                                refine hrz.mono ?_
                                rintro ez2 wz2 ⟨rfl, hbz⟩
                                have hM := HM.out.more hbz
                                have HM2 : Hid _ := hM
                                clear hM hrz hbz c1 HM
                                go_wp2_with fail
                                go_roundw
                                case rel => exact ⟨m + 1, by omega, by go_num, by rw [HT1.out], by rw [HT2.out], HM2.out⟩
                                case measure => simp [intOf]; omega
                            · as_aux_lemma =>
                                obtain rfl : n = m := by omega
                                have htk : lz.take n = lz := List.take_of_length_le (by rw [hM.len]; omega)
                                rw [htk, HCS.out.tot, HCS.out.dn]
                                have HR2 : Hid (CR S W.heap.size g hs lim W wz (val + c)) := ⟨_, hM, HCS.out⟩
                                have hv0 : 0 ≤ (val + c) := hbd.2.2.1
                                clear htk hM HCS hbd hbd2
                                go_wp2_with fail
                                go_roundw
                                case rel => exact ⟨k + 1, by omega, by go_num, _, rfl, HR2.out⟩
                                case measure => simp [intOf]; omega
                        · have q5 : kd = 5 := by omega
                          have hCS : CS (ls.set i (sa.tnext (fromOf kd) (toOf kd) c)) lim val := ⟨hts.1, by have h2 := hts.2; rw [h2]; subst q5; simp⟩
                          have p1 : (kd == 1) = false := by simp; omega
                          have p2 : (kd == 2) = false := by simp; omega
                          have p3 : (kd == 3) = false := by simp; omega
                          have p4 : (kd == 4) = false := by simp; omega
                          have ev : True := trivial
                          clear hts hbv q1 q2 q3 q4 q5 hkd1 hkd5
                          generalize hlz : ls.set i (sa.tnext (fromOf kd) (toOf kd) c) = lz at hM hCS
                          clear hlz
                          have HM : Hid _ := hM
                          have HCS : Hid _ := hCS
                          clear hM hCS
                          go_wp2_with fail
                          go_loopw [25, 26, 27] (fun (tt : Value) (dd : Value) (i : Value) (wz : World) => ∃ m : Nat, m ≤ n ∧ i = .int .i64 m ∧ tt = .int .i64 (fsum LS.all (lz.take m)) ∧ dd = .int .i64 (fsum LS.d (lz.take m)) ∧ CM W.heap.size g hs lz lim W wz) (fun _ _ i _ => n - (intOf i).toNat)
                          case atStart => exact ⟨0, Nat.zero_le _, rfl, rfl, rfl, HM.out⟩
                          case round =>
                            obtain ⟨m, hm, rfl, rfl, rfl, hM⟩ := hrel
                            rename World => wz
                            clear HM
                            have hbd := CS.bounds HCS.out hM hl2 m
                            have hbd2 := CS.bounds HCS.out hM hl2 (m + 1)
                            by_cases hmn : m < n
                            · as_aux_lemma =>
                                obtain ⟨hz, sz, hhz, hsz, hBz, hokz, hcz, hLz⟩ := hM.get (i := m) (by omega)
                                have t1 := fsum_take LS.all lz m sz hsz
                                have t2 := fsum_take LS.d lz m sz hsz
                                rw [t1, t2] at hbd2
                                have HT1 : Hid _ := t1
                                have HT2 : Hid _ := t2
                                clear t1 t2
                                have c1 := hM.cell hhz
                                have hmi : (m : Int) < (n : Int) := by omega
                                have hsm := sum_any _ hBz hokz
                                have HM : Hid _ := hM
                                clear hM hBz
                                generalize fsum LS.all (lz.take m) = ta at *
                                generalize fsum LS.d (lz.take m) = tb at *
                                have q1 : IntKind.i64.wrap (ta + sz.all) = ta + sz.all := by rw [IntKind.wrap_i64]; omega
                                have q2 : IntKind.i64.wrap (tb + sz.d) = tb + sz.d := by rw [IntKind.wrap_i64]; omega
                                go_wp2_with fail
                                refine hsm.mono ?_
                                rintro ez wz1 ⟨rfl, hbz⟩
                                have hM := HM.out.more hbz
                                have c1 := hM.cell hhz
                                have hrz := rights_any _ (hM.at_ m hz sz hhz hsz).1
                                clear HM hsm hbz
                                have HM : Hid _ := hM
                                clear hM
                                have f0 := field0
                                go_wp2_with fail
                                refine hrz.mono ?_
                                rintro ez2 wz2 ⟨rfl, hbz⟩
                                have hM := HM.out.more hbz
                                have HM2 : Hid _ := hM
                                clear hM hrz hbz c1 HM
                                go_wp2_with fail
                                go_roundw
                                case rel => exact ⟨m + 1, by omega, by go_num, by rw [HT1.out], by rw [HT2.out], HM2.out⟩
                                case measure => simp [intOf]; omega
                            · as_aux_lemma =>
                                obtain rfl : n = m := by omega
                                have htk : lz.take n = lz := List.take_of_length_le (by rw [hM.len]; omega)
                                rw [htk, HCS.out.tot, HCS.out.dn]
                                have HR2 : Hid (CR S W.heap.size g hs lim W wz (val)) := ⟨_, hM, HCS.out⟩
                                have hv0 : 0 ≤ (val) := hbd.2.2.1
                                clear htk hM HCS hbd hbd2
                                go_wp2_with fail
                                go_roundw
                                case rel => exact ⟨k + 1, by omega, by go_num, _, rfl, HR2.out⟩
                                case measure => simp [intOf]; omega
                · have eo : sa.tnext (fromOf kd) (toOf kd) c = sa := by unfold LS.tnext; rw [if_neg hz]
                  rw [eo] at hh
                  have gz : (sa.tcode (fromOf kd) c == 0) = false := by simpa using hz
                  generalize sa.tcode (fromOf kd) c = ec at *
                  clear hz eo hBa
                  go_wp2_with fail
                  refine hh.mono ?_
                  rintro e11 W11 ⟨rfl, hB11, hT11⟩
                  have hM := HM.out.step hha hsa hB11 hoka hca hT11
                  rw [set_same hsa] at hM
                  clear hh hB11 hT11 HM HX x4
                  have HM : Hid _ := hM
                  have HCS : Hid _ := hCS
                  clear hM hCS
                  go_upto_region 37 with fail
                  refine wp_region_lit ?_
                  refine withFrS (N := 199) rfl ?_
                  intro f0 F0 hff
                  have hs24 : f0 24 = Value.int .i64 ec := hff 24
                  clear hff
                  refine syp F0 rfl (by omega) (wanted_none rfl) (v := Value.int .i64 ec) (by simp only [execOp, (F0.eval 24 (by omega)).trans (show _ = Value.int .i64 ec from by simp [upd, hs24])]; first | rfl | simp [go_sem]) fun F1 => ?_
                  refine syp F1 rfl (by omega) (wanted_none rfl) (v := Value.bool false) (by simp only [execOp, (F1.eval 139 (by omega)).trans (show _ = Value.int .i64 ec from by simp [upd, hs24])]; simp [go_sem, Act.eval, gz]) fun F2 => ?_
                  refine syp F2 rfl (by omega) (wanted_none rfl) (v := Value.bool false) (by simp only [execOp, (F2.eval 140 (by omega)).trans (show _ = Value.bool false from by simp [upd, hs24])]; first | rfl | simp [go_sem]) fun F3 => ?_
                  refine snp F3 rfl (by omega) (want_no F3 rfl (e := 141) rfl (by omega) (show _ = Value.bool false from by simp [upd, hs24]) (by decide)) fun F4 => ?_
                  refine snp F4 rfl (by omega) (want_no F4 rfl (e := 141) rfl (by omega) (show _ = Value.bool false from by simp [upd, hs24]) (by decide)) fun F5 => ?_
                  refine snp F5 rfl (by omega) (want_no F5 rfl (e := 141) rfl (by omega) (show _ = Value.bool false from by simp [upd, hs24]) (by decide)) fun F6 => ?_
                  refine snp F6 rfl (by omega) (want_not F6 rfl (e := 144) rfl (by omega) (show _ = undef from by simp [upd, hs24])) fun F7 => ?_
                  refine snp F7 rfl (by omega) (want_not F7 rfl (e := 144) rfl (by omega) (show _ = undef from by simp [upd, hs24])) fun F8 => ?_
                  refine snp F8 rfl (by omega) (want_no F8 rfl (e := 141) rfl (by omega) (show _ = Value.bool false from by simp [upd, hs24]) (by decide)) fun F9 => ?_
                  refine syp F9 rfl (by omega) (wanted_none rfl) (v := Value.bool false) (by simp only [execOp, (F9.eval 141 (by omega)).trans (show _ = Value.bool false from by simp [upd, hs24])]; simp [go_sem, Act.eval]) fun F10 => ?_
                  refine ⟨?_⟩
                  clear F0 F1 F2 F3 F4 F5 F6 F7 F8 F9 F10 hs24
                  simp only [Act.put, List.setIfInBounds_toArray, List.set_cons_succ, List.set_cons_zero]
                  go_upto_region 39 with fail
                  refine wp_region_lit ?_
                  refine withFrS (N := 199) rfl ?_
                  intro f0 F0 hff
                  have hs24 : f0 24 = Value.int .i64 ec := hff 24
                  clear hff
                  refine syp F0 rfl (by omega) (wanted_none rfl) (v := Value.int .i64 ec) (by simp only [execOp, (F0.eval 24 (by omega)).trans (show _ = Value.int .i64 ec from by simp [upd, hs24])]; first | rfl | simp [go_sem]) fun F1 => ?_
                  refine syp F1 rfl (by omega) (wanted_none rfl) (v := Value.bool false) (by simp only [execOp, (F1.eval 153 (by omega)).trans (show _ = Value.int .i64 ec from by simp [upd, hs24])]; simp [go_sem, Act.eval, gz]) fun F2 => ?_
                  refine syp F2 rfl (by omega) (wanted_none rfl) (v := Value.bool false) (by simp only [execOp, (F2.eval 154 (by omega)).trans (show _ = Value.bool false from by simp [upd, hs24])]; first | rfl | simp [go_sem]) fun F3 => ?_
                  refine snp F3 rfl (by omega) (want_no F3 rfl (e := 155) rfl (by omega) (show _ = Value.bool false from by simp [upd, hs24]) (by decide)) fun F4 => ?_
                  refine snp F4 rfl (by omega) (want_no F4 rfl (e := 155) rfl (by omega) (show _ = Value.bool false from by simp [upd, hs24]) (by decide)) fun F5 => ?_
                  refine snp F5 rfl (by omega) (want_no F5 rfl (e := 155) rfl (by omega) (show _ = Value.bool false from by simp [upd, hs24]) (by decide)) fun F6 => ?_
                  refine snp F6 rfl (by omega) (want_not F6 rfl (e := 158) rfl (by omega) (show _ = undef from by simp [upd, hs24])) fun F7 => ?_
                  refine snp F7 rfl (by omega) (want_not F7 rfl (e := 158) rfl (by omega) (show _ = undef from by simp [upd, hs24])) fun F8 => ?_
                  refine snp F8 rfl (by omega) (want_no F8 rfl (e := 155) rfl (by omega) (show _ = Value.bool false from by simp [upd, hs24]) (by decide)) fun F9 => ?_
                  refine syp F9 rfl (by omega) (wanted_none rfl) (v := Value.bool false) (by simp only [execOp, (F9.eval 155 (by omega)).trans (show _ = Value.bool false from by simp [upd, hs24])]; simp [go_sem, Act.eval]) fun F10 => ?_
                  refine ⟨?_⟩
                  clear F0 F1 F2 F3 F4 F5 F6 F7 F8 F9 F10 hs24
                  simp only [Act.put, List.setIfInBounds_toArray, List.set_cons_succ, List.set_cons_zero]
                  have hM := HM.out
                  have hCS : CS ls lim val := HCS.out
                  clear HM HCS
                  obtain ⟨lz, hlz⟩ : ∃ lz, lz = ls := ⟨_, rfl⟩
                  rw [← hlz] at hM hCS
                  clear hlz
                  have HM : Hid _ := hM
                  have HCS : Hid _ := hCS
                  clear hM hCS
                  go_wp2_with fail
                  go_loopw [25, 26, 27] (fun (tt : Value) (dd : Value) (i : Value) (wz : World) => ∃ m : Nat, m ≤ n ∧ i = .int .i64 m ∧ tt = .int .i64 (fsum LS.all (lz.take m)) ∧ dd = .int .i64 (fsum LS.d (lz.take m)) ∧ CM W.heap.size g hs lz lim W wz) (fun _ _ i _ => n - (intOf i).toNat)
                  case atStart => exact ⟨0, Nat.zero_le _, rfl, rfl, rfl, HM.out⟩
                  case round =>
                    obtain ⟨m, hm, rfl, rfl, rfl, hM⟩ := hrel
                    rename World => wz
                    clear HM
                    have hbd := CS.bounds HCS.out hM hl2 m
                    have hbd2 := CS.bounds HCS.out hM hl2 (m + 1)
                    by_cases hmn : m < n
                    · as_aux_lemma =>
                        obtain ⟨hz, sz, hhz, hsz, hBz, hokz, hcz, hLz⟩ := hM.get (i := m) (by omega)
                        have t1 := fsum_take LS.all lz m sz hsz
                        have t2 := fsum_take LS.d lz m sz hsz
                        rw [t1, t2] at hbd2
                        have HT1 : Hid _ := t1
                        have HT2 : Hid _ := t2
                        clear t1 t2
                        have c1 := hM.cell hhz
                        have hmi : (m : Int) < (n : Int) := by omega
                        have hsm := sum_any _ hBz hokz
                        have HM : Hid _ := hM
                        clear hM hBz
                        generalize fsum LS.all (lz.take m) = ta at *
                        generalize fsum LS.d (lz.take m) = tb at *
                        have q1 : IntKind.i64.wrap (ta + sz.all) = ta + sz.all := by rw [IntKind.wrap_i64]; omega
                        have q2 : IntKind.i64.wrap (tb + sz.d) = tb + sz.d := by rw [IntKind.wrap_i64]; omega
                        go_wp2_with fail
                        refine hsm.mono ?_
                        rintro ez wz1 ⟨rfl, hbz⟩
                        have hM := HM.out.more hbz
                        have c1 := hM.cell hhz
                        have hrz := rights_any _ (hM.at_ m hz sz hhz hsz).1
                        clear HM hsm hbz
                        have HM : Hid _ := hM
                        clear hM
                        have f0 := field0
                        go_wp2_with fail
                        refine hrz.mono ?_
                        rintro ez2 wz2 ⟨rfl, hbz⟩
                        have hM := HM.out.more hbz
                        have HM2 : Hid _ := hM
                        clear hM hrz hbz c1 HM
                        go_wp2_with fail
                        go_roundw
                        case rel => exact ⟨m + 1, by omega, by go_num, by rw [HT1.out], by rw [HT2.out], HM2.out⟩
                        case measure => simp [intOf]; omega
                    · as_aux_lemma =>
                        obtain rfl : n = m := by omega
                        have htk : lz.take n = lz := List.take_of_length_le (by rw [hM.len]; omega)
                        rw [htk, HCS.out.tot, HCS.out.dn]
                        have HR2 : Hid (CR S W.heap.size g hs lim W wz (val)) := ⟨_, hM, HCS.out⟩
                        have hv0 : 0 ≤ (val) := hbd.2.2.1
                        clear htk hM HCS hbd hbd2
                        go_wp2_with fail
                        go_roundw
                        case rel => exact ⟨k + 1, by omega, by go_num, _, rfl, HR2.out⟩
                        case measure => simp [intOf]; omega
          · obtain ⟨ls, hM, _⟩ := hR
            have HE : Hid _ := hM.q
            clear hM
            go_wp2_with fail
            go_ret
            exact ⟨rfl, HE.out⟩
        · obtain ⟨ls, hM, _⟩ := hR
          have HE : Hid _ := hM.q
          clear hM
          go_wp2_with fail
          go_ret
          exact ⟨rfl, HE.out⟩
end Go.Proofs.YtgnkkpcklljffaaDoor
