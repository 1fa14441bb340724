import Derived.Test.YtboghanldbmfmabDoorKeepB2
import Derived.Test.YtboghanldbmfmabDoorTurned2
namespace Go.Proofs.YtboghanldbmfmabDoor
open Go.RowKit

/-- Answers that were left alone: each just as long as its row, no two in one row. -/
def Good (fs : List (Value × List UInt8)) : Prop :=
  (∀ (k : Nat) (e : Value × List UInt8), fs[k]? = some e → ∃ ao, e.1 = .slice ao e.2.length e.2.length) ∧
  ∀ (i j : Nat) (a b : Value × List UInt8) (g : Nat), i ≠ j → fs[i]? = some a → fs[j]? = some b → a.1.ownBlock = some g → b.1.ownBlock ≠ some g

theorem ent_at {L : Nat} {w : World} {ao : Option Addr} {n c : Nat} {bs : List UInt8} (h : Ent L w (.slice ao n c) bs) (h0 : 0 < n) :
    ∃ b off, ao = some ⟨b, off, none⟩ ∧ At w b off bs ∧ L ≤ b ∧ ∃ cur, w.heap[b]? = some (.cells cur 5 (0, 0)) := by
  obtain ⟨ao', n', c', e, hn, _, _, hs, ha⟩ := h
  cases e
  obtain ⟨b, off, rfl, hA⟩ := src_at hs (by omega)
  obtain ⟨h1, cur, h2⟩ := ha _ rfl
  exact ⟨b, off, rfl, hA, h1, cur, h2⟩
theorem ent_len {L : Nat} {w : World} {ao : Option Addr} {n c : Nat} {bs : List UInt8} (h : Ent L w (.slice ao n c) bs) : bs.length = n := by
  obtain ⟨_, _, _, e, hn, _⟩ := h; cases e; exact hn
theorem ent_set {L : Nat} {w : World} {b off n c : Nat} {bs : List UInt8} (h : Ent L w (.slice (some ⟨b, off, none⟩) n c) bs) (j : Nat) (u : UInt8) (hj : j < n) :
    Ent L (w.setCell ⟨b, off + j, none⟩ (B u)) (.slice (some ⟨b, off, none⟩) n c) (bs.set j u) := by
  have hl := ent_len h
  obtain ⟨b', off', e, hA, hL, cur, hcur⟩ := ent_at h (by omega)
  cases e
  obtain ⟨_, _, _, e, hn, hc, hnil, _, _⟩ := h
  cases e
  have hcell := hA j _ (getD_some bs j (by omega))
  refine ⟨_, n, c, rfl, by simp [hn], hc, hnil, fun _ => ⟨_, rfl, fun i v hv => ?_⟩, fun ad e => by cases e; exact ⟨hL, _, by simp [World.setCell, Array.getElem?_modify, hcur]; rfl⟩⟩
  rw [show (Addr.add ⟨b, off, none⟩ i) = ⟨b, off + i, none⟩ from by unfold Addr.add; split <;> simp_all]
  rw [cell_set _ _ _ _ _ (by rw [hcell]; rfl)]
  rw [List.getElem?_set] at hv
  by_cases e : i = j
  · subst e
    rw [if_pos rfl, if_pos (by omega)] at hv
    cases hv
    rw [if_pos rfl]
  · rw [if_neg (fun e' => e e'.symm)] at hv
    rw [if_neg (by omega)]
    exact hA i v hv

/-- Only bytes have been written, and nothing made. -/
structure Byt (L : Nat) (w w' : World) : Prop where
  below : Below L w w'
  size : w'.heap.size = w.heap.size
  other : ∀ (k : Nat) (cur : Array Value) (t : Nat), w.heap[k]? = some (.cells cur t (0, 0)) → t ≠ 5 → w'.heap[k]? = w.heap[k]?
theorem Byt.refl (L : Nat) (w : World) : Byt L w w := ⟨Below.refl _ _, rfl, fun _ _ _ _ _ => rfl⟩
theorem Byt.drewN {L : Nat} (w : World) (q : Nat) : Byt L w (w.drewN q) := ⟨below_drewN (Below.refl _ _) q, rfl, fun _ _ _ _ _ => rfl⟩
theorem Byt.trans {L : Nat} {a b c : World} (h : Byt L a b) (k : Byt L b c) : Byt L a c := ⟨h.below.trans k.below, k.size.trans h.size, fun i cur t hi ht => (k.other i cur t ((h.other i cur t hi ht).trans hi) ht).trans (h.other i cur t hi ht)⟩
theorem Byt.setCell {L : Nat} {a w : World} (h : Byt L a w) {b o : Nat} {cur : Array Value} (hb : w.heap[b]? = some (.cells cur 5 (0, 0))) (hL : L ≤ b) (u : Value) : Byt L a (w.setCell ⟨b, o, none⟩ u) := by
  refine h.trans ⟨(Below.refl _ _).setCell hL _, by simp [World.setCell], fun k c t hk ht => Below.heap_setCell _ _ _ _ fun e => ?_⟩
  subst e
  rw [hb] at hk; simp at hk; exact ht hk.2.symm

/-- The answers' contents as they stand now. -/
def Cont (L : Nat) (w : World) (fs : List (Value × List UInt8)) (cs : List (List UInt8)) : Prop :=
  cs.length = fs.length ∧ ∀ (k : Nat) (e : Value × List UInt8) (c : List UInt8), fs[k]? = some e → cs[k]? = some c → Ent L w e.1 c ∧ c.length = e.2.length

theorem Cont.set {L : Nat} {w : World} {fs : List (Value × List UInt8)} {cs : List (List UInt8)} (h : Cont L w fs cs) (hG : Good fs) {k b off n r : Nat} {e : Value × List UInt8} {c : List UInt8} (u : UInt8)
    (he : fs[k]? = some e) (hev : e.1 = .slice (some ⟨b, off, none⟩) n n) (hc : cs[k]? = some c) (hr : r < n) : Cont L (w.setCell ⟨b, off + r, none⟩ (B u)) fs (cs.set k (c.set r u)) := by
  refine ⟨by rw [List.length_set]; exact h.1, fun i e' c' he' hc' => ?_⟩
  rw [List.getElem?_set] at hc'
  by_cases hik : k = i
  · subst hik
    rw [he] at he'
    cases he'
    have hkl := (List.getElem?_eq_some_iff.1 hc).1
    rw [if_pos rfl, if_pos hkl] at hc'
    cases hc'
    obtain ⟨h1, h2⟩ := h.2 k e c he hc
    rw [hev] at h1 ⊢
    exact ⟨ent_set h1 r u hr, by rw [List.length_set]; exact h2⟩
  · rw [if_neg hik] at hc'
    obtain ⟨h1, h2⟩ := h.2 i e' c' he' hc'
    refine ⟨h1.same fun g hg => Below.heap_setCell _ _ _ _ fun eg => ?_, h2⟩
    exact hG.2 k i e e' b hik he he' (by rw [hev]; rfl) (by have e2 : g = b := eg; rw [← e2]; exact hg)

def mk1 (i : Nat) : UInt8 := UInt8.ofNat (i + 1)
theorem mk1_val (i : Nat) (h : i < 200) : B (mk1 i) = .int .u8 ((i : Int) + 1) := by rw [B, mk1]; exact val_u8 (by simp; omega)
def mk2 (i : Nat) : UInt8 := UInt8.ofNat (i + 130)
theorem mk2_val (i : Nat) : B (mk2 i) = .int .u8 (((i : Int) + 130) % 256) := by rw [B, mk2]; exact val_u8 (by simp)
theorem take_set_succ (c : List UInt8) (r : Nat) (u : UInt8) (h : r < c.length) (ht : c.take r = List.replicate r u) : (c.set r u).take (r + 1) = List.replicate (r + 1) u := by
  rw [List.take_add_one, List.getElem?_set, if_pos rfl, if_pos h, List.take_set_of_le (Nat.le_refl _), ht, List.replicate_succ']; rfl

/-- The answers that were grown. -/
def Far (M : Nat) (w : World) (fs : List (Value × List UInt8)) (k : Nat) (gs : List Value) : Prop :=
  gs.length = k ∧ ∀ (j : Nat) (e : Value × List UInt8) (v : Value), fs[j]? = some e → gs[j]? = some v → w.ownsRow M 5 1 v (e.2.length + 100) ((List.replicate e.2.length (mk1 j) ++ List.replicate 100 (mk2 j)).map B)
theorem Far.keep {M k : Nat} {w w' : World} {fs : List (Value × List UInt8)} {gs : List Value} (h : Far M w fs k gs) (hb : ∀ (g : Nat) (cur : Array Value), w.heap[g]? = some (.cells cur 5 (0, 0)) → w'.heap[g]? = w.heap[g]?) : Far M w' fs k gs :=
  ⟨h.1, fun j e v he hv => own_same (h.2 j e v he hv) fun g hg => by obtain ⟨_, cur, hh⟩ := own_blk (h.2 j e v he hv) hg; exact hb g cur hh⟩
theorem Far.snoc {M k : Nat} {w : World} {fs : List (Value × List UInt8)} {gs : List Value} {e : Value × List UInt8} {v : Value} (h : Far M w fs k gs) (he : fs[k]? = some e)
    (hv : w.ownsRow M 5 1 v (e.2.length + 100) ((List.replicate e.2.length (mk1 k) ++ List.replicate 100 (mk2 k)).map B)) : Far M w fs (k + 1) (gs ++ [v]) := by
  refine ⟨by simp [h.1], fun j e' v' he' hv' => ?_⟩
  by_cases hj : j < k
  · rw [List.getElem?_append_left (by rw [h.1]; exact hj)] at hv'
    exact h.2 j e' v' he' hv'
  · rw [List.getElem?_append_right (by rw [h.1]; omega), h.1] at hv'
    have hjk : j = k := by
      by_cases e0 : j - k = 0
      · omega
      · rw [List.getElem?_eq_none (by simp; omega)] at hv'; cases hv'
    subst hjk
    rw [Nat.sub_self] at hv'
    cases hv'
    rw [he] at he'
    cases he'
    exact hv

set_option maxRecDepth 100000 in
set_option maxHeartbeats 4000000 in
theorem apart_any (L s : Nat) (w : World) (m : Nat) (lv hv : Value) (ls : List (Value × List UInt8)) (lent : Option (Nat × List UInt8)) (fv wv : Value) (fs : List (Value × List UInt8))
    (hS : Shelf L s w m lv hv ls lent fv wv fs) (hG : Good fs) (hN : fs.length ≤ 200) (hlen : ∀ e ∈ fs, e.2.length ≤ 100000) :
    Calls Tryd.prog 8 #[.pointer (some ⟨s, 0, none⟩)] w fun e w' => e = .returned (.bool true) ∧ Below L w w' := by
  have hblk := hS.blk
  obtain ⟨_, _, _, c4, c5, _⟩ := sh_cells hblk
  obtain ⟨lo, lc, hfv, hlc, hlg⟩ := own_form hS.left
  obtain ⟨ho, hc, hwv, hhc, hhg⟩ := own_form hS.were
  have hfsE := hS.fsE
  have hleft := hS.left
  have hLs := hS.base
  rw [hfv] at c4 hleft
  rw [hwv] at c5
  clear hS hfv hwv
  generalize hNN : fs.length = N at *
  have HBLK : Hid _ := hblk
  have HLEFT : Hid _ := hleft
  have HLEN : Hid _ := hlen
  have HNN : Hid _ := hNN
  clear hblk hleft hlen hNN
  go_enter Tryd.func8, Tryd.ntmps8
  go_wp2
  go_loopw [3] (fun i wr => ∃ k : Nat, k ≤ N ∧ i = .int .i64 k ∧ ∃ q, wr = w.drewN q) (fun i _ => N - (intOf i).toNat)
  case atStart => exact ⟨0, Nat.zero_le _, rfl, 0, rfl⟩
  case round =>
    obtain ⟨k, hk, rfl, q, rfl⟩ := hrel
    by_cases hlt : k < N
    · obtain ⟨gl, rfl, hcl⟩ := hlg (by omega)
      obtain ⟨gh, rfl, hch⟩ := hhg (by omega)
      obtain ⟨e, he⟩ : ∃ e, fs[k]? = some e := ⟨fs[k]'(by rw [HNN.out]; exact hlt), List.getElem?_eq_getElem _⟩
      obtain ⟨ao, n, cap, hev, hn, _, _, hs, _⟩ := hfsE e (List.mem_of_getElem? he)
      have d0 := hcl k e.1 (by rw [List.getElem?_map, he]; rfl)
      have d1 := hch k (StrV e.2) (by rw [List.getElem?_map, he]; rfl)
      rw [hev] at d0
      have kc := conv_all w ao n cap e.2 hn hs
      simp only [StrV] at d1 kc
      clear hcl hch hfsE hs hev he hlg hhg
      go_wp2
      go_quiet (fail)
      go_wp2
      go_roundw
      case rel => exact ⟨k + 1, by omega, by go_num, _, rfl⟩
      case measure => simp [intOf]; omega
    · clear hhg
      have hcont : Cont L (w.drewN q) fs (fs.map (·.2)) := by
        refine ⟨by simp, fun j e c he hc' => ?_⟩
        rw [List.getElem?_map, he] at hc'
        cases hc'
        exact ⟨hfsE e (List.mem_of_getElem? he), rfl⟩
      have hbyt : Byt L w (w.drewN q) := Byt.drewN w q
      clear hfsE
      go_wp2_with fail
      generalize w.drewN q = wA at *
      go_loopw [4, 5] (fun i _ wr => ∃ k : Nat, k ≤ N ∧ i = .int .i64 k ∧ Byt L w wr ∧ ∃ cs, Cont L wr fs cs ∧ ∀ (j : Nat) (e : Value × List UInt8), j < k → fs[j]? = some e → cs[j]? = some (List.replicate e.2.length (mk1 j))) (fun i _ _ => N - (intOf i).toNat)
      case atStart => exact ⟨0, Nat.zero_le _, rfl, hbyt, _, hcont, fun j e h => by omega⟩
      case round =>
        obtain ⟨k2, hk2, rfl, hbk, cs, hC, hdone⟩ := hrel
        have x4 : wr.cell? ⟨s, 4, none⟩ = some (.slice lo N lc) := (World.cell?_of_block (w := w) (hbk.other s _ 28 HBLK.out (by decide))).trans c4
        by_cases hlt2 : k2 < N
        · obtain ⟨gl, rfl, hcl⟩ := hlg (by omega)
          obtain ⟨e, he⟩ : ∃ e, fs[k2]? = some e := ⟨fs[k2]'(by rw [HNN.out]; exact hlt2), List.getElem?_eq_getElem _⟩
          obtain ⟨ao, hev⟩ := hG.1 k2 e he
          have hnl := HLEN.out e (List.mem_of_getElem? he)
          obtain ⟨_, curl, hcurl⟩ := own_blk HLEFT.out (g := gl) rfl
          have d0 := hcl k2 e.1 (by rw [List.getElem?_map, he]; rfl)
          have x0 : wr.cell? ⟨gl, k2, none⟩ = some e.1 := (World.cell?_of_block (w := w) (hbk.other gl _ 22 hcurl (by decide))).trans d0
          rw [hev] at x0 d0
          generalize hen : e.2.length = n at *
          obtain ⟨c0, hc0⟩ : ∃ c0, cs[k2]? = some c0 := ⟨cs[k2]'(by rw [hC.1, HNN.out]; exact hlt2), List.getElem?_eq_getElem _⟩
          go_wp2_with fail
          go_loopw [5] (fun j wx => ∃ r : Nat, r ≤ n ∧ j = .int .i64 r ∧ Byt L w wx ∧ ∃ cs', Cont L wx fs cs' ∧ (∀ (j : Nat) (e : Value × List UInt8), j < k2 → fs[j]? = some e → cs'[j]? = some (List.replicate e.2.length (mk1 j))) ∧ ∃ c, cs'[k2]? = some c ∧ c.take r = List.replicate r (mk1 k2)) (fun j _ => n - (intOf j).toNat)
          case atStart => exact ⟨0, Nat.zero_le _, rfl, hbk, cs, hC, hdone, c0, hc0, rfl⟩
          case round =>
            obtain ⟨r, hr, rfl, hbr, cs', hC', hdone', c, hc', hct⟩ := hrel
            clear hbk hC hdone hc0 x4 x0
            have x4 : wr.cell? ⟨s, 4, none⟩ = some (.slice (some ⟨gl, 0, none⟩) N lc) := (World.cell?_of_block (w := w) (hbr.other s _ 28 HBLK.out (by decide))).trans c4
            have x0 : wr.cell? ⟨gl, k2, none⟩ = some (.slice ao n n) := (World.cell?_of_block (w := w) (hbr.other gl _ 22 hcurl (by decide))).trans d0
            obtain ⟨hEc, hcl2⟩ := hC'.2 k2 e c he hc'
            rw [hev] at hEc
            by_cases hltr : r < n
            · obtain ⟨b, off, rfl, hA, hLb, curb, hcurb⟩ := ent_at hEc (by omega)
              have y := hA r _ (getD_some c r (by omega))
              have yfz : wr.frozen? ⟨b, off + r, none⟩ = false := by simp [World.frozen?, hcurb]
              have hC2 := hC'.set hG (mk1 k2) he hev hc' hltr
              have hb2 := hbr.setCell (o := off + r) hcurb hLb (B (mk1 k2))
              have hd2 : ∀ (j : Nat) (e : Value × List UInt8), j < k2 → fs[j]? = some e → (cs'.set k2 (c.set r (mk1 k2)))[j]? = some (List.replicate e.2.length (mk1 j)) := fun j e' hj he' => by
                rw [List.getElem?_set, if_neg (by omega)]; exact hdone' j e' hj he'
              have hk2 : (cs'.set k2 (c.set r (mk1 k2)))[k2]? = some (c.set r (mk1 k2)) := by
                rw [List.getElem?_set, if_pos rfl, if_pos (List.getElem?_eq_some_iff.1 hc').1]
              have ht2 := take_set_succ c r (mk1 k2) (by omega) hct
              rw [mk1_val k2 (by omega)] at hC2 hb2
              simp only [B] at y
              have HC2 : Hid _ := hC2
              have HB2 : Hid _ := hb2
              clear hC2 hb2 hC' hbr hdone' hcurb hA hEc hcl hlg
              generalize (c.getD r 0).toNat = z at *
              go_wp2
              go_roundw
              case rel => exact ⟨r + 1, by omega, by go_num, HB2.out, _, HC2.out, hd2, _, hk2, ht2⟩
              case measure => simp [intOf]; omega
            · clear hcl hlg
              have hcr : c = List.replicate n (mk1 k2) := by
                rw [List.take_of_length_le (by omega)] at hct
                rw [hct]; congr 1; omega
              have hd2 : ∀ (j : Nat) (e : Value × List UInt8), j < k2 + 1 → fs[j]? = some e → cs'[j]? = some (List.replicate e.2.length (mk1 j)) := by
                intro j e' hj he'
                by_cases hjk : j = k2
                · subst hjk
                  rw [he] at he'
                  cases he'
                  rw [hc', hcr, hen]
                · exact hdone' j e' (by omega) he'
              clear hcr
              go_wp2
              go_roundw
              case rel => exact ⟨k2 + 1, by omega, by go_num, hbr, cs', hC', hd2⟩
              case measure => simp [intOf]; omega
        · obtain rfl : k2 = N := by omega
          have hF : ∀ (j : Nat) (e : Value × List UInt8), fs[j]? = some e → Ent L wr e.1 (List.replicate e.2.length (mk1 j)) := fun j e he =>
            (hC.2 j e _ he (hdone j e (by have := (List.getElem?_eq_some_iff.1 he).1; rw [HNN.out] at this; exact this) he)).1
          have hsl : s < wr.heap.size := by rw [hbk.size]; exact (Array.getElem?_eq_some_iff.1 HBLK.out).1
          have hLM : L ≤ wr.heap.size := by omega
          have hlc2 : 0 < k2 → ∃ gl, lo = some ⟨gl, 0, none⟩ ∧ gl < wr.heap.size ∧ ∀ (j : Nat) (e : Value × List UInt8), fs[j]? = some e → wr.cell? ⟨gl, j, none⟩ = some e.1 := fun h0 => by
            obtain ⟨gl, rfl, hcl⟩ := hlg h0
            obtain ⟨_, curl, hcurl⟩ := own_blk HLEFT.out (g := gl) rfl
            refine ⟨gl, rfl, by rw [hbk.size]; exact (Array.getElem?_eq_some_iff.1 hcurl).1, fun j e he => ?_⟩
            exact (World.cell?_of_block (w := w) (hbk.other gl _ 22 hcurl (by decide))).trans (hcl j e.1 (by rw [List.getElem?_map, he]; rfl))
          have hbw := hbk.below
          clear hbk hC hdone hlg c4 c5 hcont hbyt hLs HLEFT HBLK
          obtain ⟨i0, hi, hz0, hz1, hz2⟩ := info_parts Tryd.info22
          obtain ⟨k0, ki, kz0, kz1, kz2⟩ := info_parts Tryd.info5
          go_wp2_with fail
          generalize hwB : wr = wB at *
          clear hwB
          generalize hM : wB.heap.size = M at *
          have HM : Hid _ := hM
          clear hM
          go_loopw [6, 7, 8, 9] (fun fa i _ _ wx => ∃ k : Nat, k ≤ k2 ∧ i = .int .i64 k ∧ Below M wB wx ∧ ∃ gs, Far M wx fs k gs ∧ wx.ownsRow M 22 1 fa k gs) (fun _ i _ _ _ => k2 - (intOf i).toNat)
          case atStart => exact ⟨0, Nat.zero_le _, rfl, Below.refl _ _, [], ⟨rfl, fun j e v _ h => by cases h⟩, World.ownsRow_nil _ _ _ _⟩
          case round =>
            obtain ⟨q, hq, rfl, hbq, gs, hFar, hfa⟩ := hrel
            have e4 : wr.cell? ⟨s, 4, none⟩ = some (.slice lo k2 lc) := (hbq.cell hsl).trans x4
            have hzq := hbq.size
            rw [HM.out] at hzq
            by_cases hqN : q < k2
            · obtain ⟨gl, rfl, hgl, hcl⟩ := hlc2 (by omega)
              obtain ⟨e, he⟩ : ∃ e, fs[q]? = some e := ⟨fs[q]'(by rw [HNN.out]; exact hqN), List.getElem?_eq_getElem _⟩
              obtain ⟨ao, hev⟩ := hG.1 q e he
              have hnl := HLEN.out e (List.mem_of_getElem? he)
              have hEe := hF q e he
              have d0 : wr.cell? ⟨gl, q, none⟩ = some e.1 := (hbq.cell hgl).trans (hcl q e he)
              rw [hev] at d0 hEe
              generalize hen : e.2.length = n at *
              have hbs := ent_len hEe
              have hEr : Ent L wr (.slice ao n n) (List.replicate n (mk1 q)) := hEe.same fun g hg => hbq.block g (by rw [← HM.out]; exact (hEe.lt hg).1)
              generalize hbs' : List.replicate n (mk1 q) = bs' at *
              clear hlc2 hF
              go_wp2_with fail
              generalize hwC : wr = wC at *
              clear hwC
              generalize hMC : wC.heap.size = MC at *
              have HMC : Hid _ := hMC
              clear hMC
              go_loopw [8, 9] (fun gv j wy => ∃ k : Nat, k ≤ 100 ∧ j = .int .i64 k ∧ Below MC wC wy ∧ ((k = 0 ∧ gv = .slice ao n n) ∨ (0 < k ∧ wy.ownsRow MC 5 1 gv (n + k) ((bs' ++ List.replicate k (mk2 q)).map B)))) (fun _ j _ => 100 - (intOf j).toNat)
              case atStart => exact ⟨0, by omega, rfl, Below.refl _ _, .inl ⟨rfl, rfl⟩⟩
              case round =>
                obtain ⟨r, hr, rfl, hbr, hmv⟩ := hrel
                have hzr := hbr.size
                rw [HMC.out] at hzr
                by_cases hr100 : r < 100
                · have hs1 := src_mark wr [mk2 q] #[.int .u8 (((q : Int) + 130) % 256)] (0, 0) (by rw [← mk2_val]; rfl)
                  rcases hmv with ⟨rfl, rfl⟩ | ⟨hq0, hown⟩
                  · have hsW : Src (wr.alloc (.cells #[.int .u8 (((q : Int) + 130) % 256)] 5)) ao bs' := by
                      have hE2 : Ent L wr (.slice ao n n) bs' := hEr.same fun g hg => hbr.block g (by rw [← HMC.out]; exact (hEr.lt hg).1)
                      obtain ⟨_, _, _, e', _, _, _, h1, _⟩ := hE2
                      cases e'
                      exact src_keep h1 ((Below.refl _ _).alloc (Nat.le_refl _) _)
                    have hnoneA : ao = none → n = 0 ∧ n = 0 := by
                      obtain ⟨_, _, _, e', _, _, h1, _⟩ := hEr
                      cases e'
                      exact h1
                    go_wp2_with (first
                      | (at_builtin; go_must (refine wpList_append_grows _ rfl _ _ 22 rfl 5 k0 _ 1 1 Tryd.underlying22 ki kz0 kz1 kz2 rfl (by decide) ao n n (bs'.map B) rfl hnoneA (by simp [hbs]) (fun b hb => by subst hb; exact news_of hsW) ⟨wr.heap.size, 0, none⟩ 1 1 [.int .u8 (((q : Int) + 130) % 256)] rfl rfl (new_cell rfl) (by intro u hu; simp at hu; subst hu; rfl) (by omega) (by unfold maxLen; omega) (by omega) ?_))
                      | fail)
                    intro v2 w2 hown2 hg2
                    have hb2 : Below MC wC w2 := (hbr.alloc hzr _).grown hg2 (by simp; omega) (fun k h => by cases h)
                    replace hown2 : w2.ownsRow MC 5 1 v2 (n + 1) ((bs' ++ List.replicate 1 (mk2 q)).map B) := by
                      rw [List.map_append, show (List.replicate 1 (mk2 q)).map B = [.int .u8 (((q : Int) + 130) % 256)] from by rw [← mk2_val]; rfl]
                      exact own_le hown2 (by omega)
                    clear hg2 hsW hs1
                    go_wp2
                    go_roundw
                    case rel => exact ⟨1, by omega, by go_num, hb2, .inr ⟨by omega, hown2⟩⟩
                    case measure => simp [intOf]
                  · go_wp2_with (first
                      | (at_builtin; go_must (refine wpList_append_bytes rfl _ _ rfl MC (n + r) _ _ rfl (hown.alloc _) _ 1 1 [mk2 q] rfl rfl (by intro h; cases h) hs1 (by omega) (by simp; omega) ?_))
                      | fail)
                    intro v2 w2 hown2 hg2
                    have hb2 : Below MC wC w2 := (hbr.alloc hzr _).grown hg2 (by simp; omega) (fun k h => (hown.lt k h).1)
                    replace hown2 : w2.ownsRow MC 5 1 v2 (n + (r + 1)) ((bs' ++ List.replicate (r + 1) (mk2 q)).map B) := by
                      rw [List.map_append, List.map_replicate, List.replicate_succ', ← Nat.add_assoc]
                      exact hown2
                    clear hg2 hs1 hown
                    go_wp2
                    go_roundw
                    case rel => exact ⟨r + 1, by omega, by go_num, hb2, .inr ⟨by omega, hown2⟩⟩
                    case measure => simp [intOf]; omega
                · obtain rfl : r = 100 := by omega
                  rcases hmv with ⟨h, _⟩ | ⟨_, hownM⟩
                  · omega
                  obtain ⟨gM, cM, rfl, hMg, hgMl⟩ := hownM.form (by omega)
                  have hfa' : wr.ownsRow M 22 1 u6 q gs := own_same hfa fun g hg => hbr.block g (by
                    obtain ⟨_, cur, hh⟩ := own_blk hfa hg
                    rw [← HMC.out]; exact (Array.getElem?_eq_some_iff.1 hh).1)
                  have hFar' : Far M wr fs q gs := hFar.keep fun g cur hg => hbr.block g (by rw [← HMC.out]; exact (Array.getElem?_eq_some_iff.1 hg).1)
                  obtain ⟨fo, fc, rfl⟩ := own_val hfa'
                  have hbB : Below M wB wr := hbq.trans (hbr.mono hzq)
                  have hzB : M ≤ wr.heap.size := Nat.le_trans hzq hzr
                  clear hfa hFar hbr hbq e4 d0
                  go_wp2_with (first
                    | (at_builtin; go_must (refine wpList_append_lies _ rfl _ _ 25 rfl M 22 i0 _ 1 24 Tryd.underlying25 hi hz0 hz1 hz2 rfl (by decide) _ _ _ rfl (hfa'.alloc _) ⟨wr.heap.size, 0, none⟩ 1 1 [.slice (some ⟨gM, 0, none⟩) (n + 100) cM] rfl rfl (new_cell rfl) (by intro u hu; simp at hu; subst hu; rfl) (by decide) (by unfold maxLen; omega) (by omega) (by simp; omega) (wr.heap.size + 1) (by simp) ?_))
                    | fail)
                  intro g2 fc2 w2 hown2 hg2 hat2 hlt2
                  have hb2 : Below M wB w2 := (hbB.alloc hzB _).grown hg2 (by simp; omega) (fun k h => (hfa'.lt k h).1)
                  have h52 : ∀ (g : Nat) (cur : Array Value), wr.heap[g]? = some (.cells cur 5 (0, 0)) → w2.heap[g]? = wr.heap[g]? := fun g cur hg => grown_keep hg2 (Array.getElem?_eq_some_iff.1 hg).1 (own_ne hfa' hg (by decide))
                  have hFar2 : Far M w2 fs (q + 1) (gs ++ [.slice (some ⟨gM, 0, none⟩) (n + 100) cM]) := by
                    refine (hFar'.keep h52).snoc he ?_
                    rw [hen, hbs']
                    refine own_same (own_le hownM hzq) fun g hg => ?_
                    obtain ⟨_, cur, hh⟩ := own_blk hownM hg
                    exact h52 g cur hh
                  clear hg2 hat2 hlt2 hfa' hFar' hownM h52
                  go_wp2
                  go_roundw
                  case rel => exact ⟨q + 1, by omega, by go_num, hb2, _, hFar2, hown2⟩
                  case measure => simp [intOf]; omega
            · obtain rfl : q = k2 := by omega
              obtain ⟨fo, fc, rfl, hfc, hfg⟩ := own_form hfa
              have hall : ∀ (j : Nat), j < q → ∃ (e : Value × List UInt8) (ao : Option Addr) (gM cM : Nat), fs[j]? = some e ∧ e.1 = .slice ao e.2.length e.2.length ∧ e.2.length ≤ 100000 ∧ gs[j]? = some (.slice (some ⟨gM, 0, none⟩) (e.2.length + 100) cM) ∧
                  Ent L wr (.slice ao e.2.length e.2.length) (List.replicate e.2.length (mk1 j)) ∧ (∀ (r : Nat) (u : UInt8), (List.replicate e.2.length (mk1 j) ++ List.replicate 100 (mk2 j))[r]? = some u → wr.cell? ⟨gM, r, none⟩ = some (B u)) := by
                intro j hj
                obtain ⟨e, he⟩ : ∃ e, fs[j]? = some e := ⟨fs[j]'(by rw [HNN.out]; exact hj), List.getElem?_eq_getElem _⟩
                obtain ⟨v, hv⟩ : ∃ v, gs[j]? = some v := ⟨gs[j]'(by rw [hFar.1]; exact hj), List.getElem?_eq_getElem _⟩
                obtain ⟨ao, hev⟩ := hG.1 j e he
                have hrow := hFar.2 j e v he hv
                obtain ⟨gM, cM, rfl, _, _⟩ := hrow.form (by omega)
                have hEe := hF j e he
                rw [hev] at hEe
                refine ⟨e, ao, gM, cM, he, hev, HLEN.out e (List.mem_of_getElem? he), hv, hEe.same fun g hg => hbq.block g (by rw [← HM.out]; exact (hEe.lt hg).1), fun r u hu => ?_⟩
                have hcc := hrow.cells (g := gM) rfl r (B u) (by rw [List.getElem?_map, hu]; rfl)
                rwa [addr_add] at hcc
              have hlc3 : 0 < q → ∃ gl, lo = some ⟨gl, 0, none⟩ ∧ ∀ (j : Nat) (e : Value × List UInt8), fs[j]? = some e → wr.cell? ⟨gl, j, none⟩ = some e.1 := fun h0 => by
                obtain ⟨gl, rfl, hgl, hcl⟩ := hlc2 h0
                exact ⟨gl, rfl, fun j e he => (hbq.cell hgl).trans (hcl j e he)⟩
              have hbE : Below L w wr := hbw.trans (hbq.mono hLM)
              clear hF hlc2 hFar hfa hbq
              go_wp2_with fail
              generalize hwE : wr = wE at *
              clear hwE
              go_loopw [10, 11, 12] (fun i _ _ wx => ∃ k : Nat, k ≤ q ∧ i = .int .i64 k ∧ ∃ z, wx = wE.drewN z) (fun i _ _ _ => q - (intOf i).toNat)
              case atStart => exact ⟨0, Nat.zero_le _, rfl, 0, rfl⟩
              case round =>
                obtain ⟨k4, hk4, rfl, z0, rfl⟩ := hrel
                by_cases hlt4 : k4 < q
                · obtain ⟨e, ao, gM, cM, he, hev, hnl, hgs, hE, hrow⟩ := hall k4 hlt4
                  obtain ⟨gl, rfl, hcl⟩ := hlc3 (by omega)
                  obtain ⟨fg, rfl, hfcell⟩ := hfg (by omega)
                  have d0 := hcl k4 e he
                  have f0 := hfcell k4 _ hgs
                  rw [hev] at d0
                  generalize hen : e.2.length = n at *
                  clear hall hlc3 hfg hcl hfcell
                  go_wp2_with fail
                  go_loopw [11, 12] (fun j _ wx => ∃ r : Nat, r ≤ n + 100 ∧ j = .int .i64 r ∧ ∃ z, wx = wE.drewN z) (fun j _ _ => n + 100 - (intOf j).toNat)
                  case atStart => exact ⟨0, Nat.zero_le _, rfl, z0, rfl⟩
                  case round =>
                    obtain ⟨r, hr, rfl, z1, rfl⟩ := hrel
                    by_cases hr1 : r < n
                    · obtain ⟨b, off, rfl, hA, _, _⟩ := ent_at hE (by omega)
                      have y := hA r (mk1 k4) (by rw [List.getElem?_replicate, if_pos hr1])
                      have z := hrow r (mk1 k4) (by rw [List.getElem?_append_left (by simpa using hr1), List.getElem?_replicate, if_pos hr1])
                      rw [mk1_val k4 (by omega)] at y z
                      clear hA hrow hE
                      go_wp2
                      go_roundw
                      case rel => exact ⟨r + 1, by omega, by go_num, _, rfl⟩
                      case measure => simp [intOf]; omega
                    · by_cases hr2 : r < n + 100
                      · have z := hrow r (mk2 k4) (by rw [List.getElem?_append_right (by simp; omega), List.getElem?_replicate, if_pos (by simp; omega)])
                        rw [mk2_val k4] at z
                        clear hrow hE
                        go_wp2
                        go_roundw
                        case rel => exact ⟨r + 1, by omega, by go_num, _, rfl⟩
                        case measure => simp [intOf]; omega
                      · clear hrow hE
                        go_wp2
                        go_roundw
                        case rel => exact ⟨k4 + 1, by omega, by go_num, _, rfl⟩
                        case measure => simp [intOf]; omega
                · clear hall hlc3 hfg
                  go_wp2
                  go_ret
                  exact ⟨rfl, below_drewN hbE _⟩
end Go.Proofs.YtboghanldbmfmabDoor
