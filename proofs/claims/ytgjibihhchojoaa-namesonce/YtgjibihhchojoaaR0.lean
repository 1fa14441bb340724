import Derived.Test.YtgjibihhchojoaaAllP
import Derived.Test.YtgjibihhchojoaaAsd
import Derived.Test.YtgjibihhchojoaaMk
import Derived.Test.YtgjibihhchojoaaLr
namespace Go.Proofs.Ytgjibihhchojoaa
open Go.RowKit Go.PlainAid
set_option linter.unusedVariables false
set_option linter.unusedSimpArgs false
def opcs (o : OpA) : List Value := [.int .i64 o.k, .string ⟨o.n.toArray⟩, .int .i64 o.a, .int .i64 o.b]
def askcs (p : (Int × Int) × OpA) : List Value := [.int .i64 p.1.1, .int .i64 p.1.2, .int .i64 p.2.k, .string ⟨p.2.n.toArray⟩, .int .i64 p.2.a, .int .i64 p.2.b]
def flatA (L : List ((Int × Int) × OpA)) : List Value := L.flatMap askcs
theorem flatA_append (a b : List ((Int × Int) × OpA)) : flatA (a ++ b) = flatA a ++ flatA b := by simp [flatA]
/-- The document's own table. -/
structure RT (B rb : Nat) (kl wl : Value) (me rep per : Int) (KL : List (List UInt8)) (WL : List ((Int × Int) × OpA)) (w : World) : Prop where
  blk : Blk w rb #[.int .i64 me, .int .i64 rep, .int .i64 per, kl, wl] 97
  kr : w.ownsRow B 9 1 kl KL.length (flatS KL)
  wr : w.ownsRow B 108 6 wl WL.length (flatA WL)
  lo : B ≤ rb
  low : B ≤ w.heap.size
def RA (rb : Nat) (kl wl : Value) (b : Nat) : Prop := b = rb ∨ kl.ownBlock = some b ∨ wl.ownBlock = some b
section
variable {B rb : Nat} {kl wl kl' wl' : Value} {me rep per : Int} {KL KL' : List (List UInt8)} {WL WL' : List ((Int × Int) × OpA)} {w w' w5 : World}
theorem RT.c0 (h : RT B rb kl wl me rep per KL WL w) : w.cell? ⟨rb, 0, none⟩ = some (.int .i64 me) := h.blk.cell 0
theorem RT.c1 (h : RT B rb kl wl me rep per KL WL w) : w.cell? ⟨rb, 1, none⟩ = some (.int .i64 rep) := h.blk.cell 1
theorem RT.c2 (h : RT B rb kl wl me rep per KL WL w) : w.cell? ⟨rb, 2, none⟩ = some (.int .i64 per) := h.blk.cell 2
theorem RT.c3 (h : RT B rb kl wl me rep per KL WL w) : w.cell? ⟨rb, 3, none⟩ = some kl := h.blk.cell 3
theorem RT.c4 (h : RT B rb kl wl me rep per KL WL w) : w.cell? ⟨rb, 4, none⟩ = some wl := h.blk.cell 4
theorem RT.keep (h : RT B rb kl wl me rep per KL WL w) {A : Nat → Prop} (hc : Chg A w w') (hA : ∀ b, RA rb kl wl b → ¬ A b) : RT B rb kl wl me rep per KL WL w' :=
  ⟨hc.blk h.blk (hA _ (Or.inl rfl)), ownsRow_same h.kr (fun g hg => hc.block g (ownsRow_lt h.kr hg).2 (hA _ (Or.inr (Or.inl hg)))), ownsRow_same h.wr (fun g hg => hc.block g (ownsRow_lt h.wr hg).2 (hA _ (Or.inr (Or.inr hg)))), h.lo, Nat.le_trans h.low hc.size⟩
theorem RT.more (h : RT B rb kl wl me rep per KL WL w) (hb2 : Below w.heap.size w w') : RT B rb kl wl me rep per KL WL w' := h.keep (Chg.ofBelow (fun _ => False) hb2) (fun _ _ e => e)
theorem RT.below (h : RT B rb kl wl me rep per KL WL w) (hc : Chg (RA rb kl wl) w w') : Below B w w' :=
  hc.below h.low (fun b hb => by
    rcases hb with rfl | e | e
    · exact h.lo
    · exact (ownsRow_lt h.kr e).1
    · exact (ownsRow_lt h.wr e).1)
theorem RT.knb (h : RT B rb kl wl me rep per KL WL w) {b : Nat} {D : Array Value} {U : TypeId} (hB : Blk w b D U) (hU : U ≠ 9) : ¬ kl.ownBlock = some b := fun e => by
  obtain ⟨cu, hcu⟩ := ownsRow_type h.kr e
  exact Blk.ne_t hB (show Blk w b cu 9 from hcu) hU rfl
theorem RT.wnb (h : RT B rb kl wl me rep per KL WL w) {b : Nat} {D : Array Value} {U : TypeId} (hB : Blk w b D U) (hU : U ≠ 108) : ¬ wl.ownBlock = some b := fun e => by
  obtain ⟨cu, hcu⟩ := ownsRow_type h.wr e
  exact Blk.ne_t hB (show Blk w b cu 108 from hcu) hU rfl
/-- One name more. -/
theorem RT.putK (h : RT B rb kl wl me rep per KL WL w) (hg : Grew w w5 kl kl') (ho : w5.ownsRow B 9 1 kl' KL'.length (flatS KL')) :
    RT B rb kl' wl me rep per KL' WL (w5.setCell ⟨rb, 3, none⟩ kl') ∧ Chg (RA rb kl wl) w (w5.setCell ⟨rb, 3, none⟩ kl') := by
  have hc := hg.chg
  have hb5 := hc.blk h.blk (h.knb h.blk (by decide))
  have hs : Chg (fun b => b = rb) w5 (w5.setCell ⟨rb, 3, none⟩ kl') := ⟨rfl, rfl, rfl, by simp [World.setCell], fun j hj hn => Below.heap_setCell _ _ _ _ hn⟩
  refine ⟨⟨hb5.set 3 kl', ?_, ?_, h.lo, Nat.le_trans h.low (Nat.le_trans hc.size hs.size)⟩, (hc.mono (fun b _ e => Or.inr (Or.inl e))).trans hs (fun _ _ e => Or.inl e)⟩
  · exact ownsRow_same ho (fun g e => by
      obtain ⟨cu, hcu⟩ := ownsRow_type ho e
      exact Below.heap_setCell _ _ _ _ (Blk.ne_t (show Blk w5 g cu 9 from hcu) hb5 (by decide)))
  · exact ownsRow_same h.wr (fun g e => by
      obtain ⟨cu, hcu⟩ := ownsRow_type h.wr e
      have h1 : ¬ kl.ownBlock = some g := h.knb (show Blk w g cu 108 from hcu) (by decide)
      have h2 := hc.blk (show Blk w g cu 108 from hcu) h1
      exact (Below.heap_setCell _ _ _ _ (Blk.ne_t h2 hb5 (by decide))).trans (hc.block g (ownsRow_lt h.wr e).2 h1))
/-- Another list of those that wait. -/
theorem RT.putW (h : RT B rb kl wl me rep per KL WL w) (hg : Grew w w5 wl wl') (ho : w5.ownsRow B 108 6 wl' WL'.length (flatA WL')) :
    RT B rb kl wl' me rep per KL WL' (w5.setCell ⟨rb, 4, none⟩ wl') ∧ Chg (RA rb kl wl) w (w5.setCell ⟨rb, 4, none⟩ wl') := by
  have hc := hg.chg
  have hb5 := hc.blk h.blk (h.wnb h.blk (by decide))
  have hs : Chg (fun b => b = rb) w5 (w5.setCell ⟨rb, 4, none⟩ wl') := ⟨rfl, rfl, rfl, by simp [World.setCell], fun j hj hn => Below.heap_setCell _ _ _ _ hn⟩
  refine ⟨⟨hb5.set 4 wl', ?_, ?_, h.lo, Nat.le_trans h.low (Nat.le_trans hc.size hs.size)⟩, (hc.mono (fun b _ e => Or.inr (Or.inr e))).trans hs (fun _ _ e => Or.inl e)⟩
  · exact ownsRow_same h.kr (fun g e => by
      obtain ⟨cu, hcu⟩ := ownsRow_type h.kr e
      have h1 : ¬ wl.ownBlock = some g := h.wnb (show Blk w g cu 9 from hcu) (by decide)
      have h2 := hc.blk (show Blk w g cu 9 from hcu) h1
      exact (Below.heap_setCell _ _ _ _ (Blk.ne_t h2 hb5 (by decide))).trans (hc.block g (ownsRow_lt h.kr e).2 h1))
  · exact ownsRow_same ho (fun g e => by
      obtain ⟨cu, hcu⟩ := ownsRow_type ho e
      exact Below.heap_setCell _ _ _ _ (Blk.ne_t (show Blk w5 g cu 108 from hcu) hb5 (by decide)))
end
theorem strAt {w : World} {B : Nat} {v : Value} {KL : List (List UInt8)} (h : w.ownsRow B 9 1 v KL.length (flatS KL)) {q : Nat} {x : List UInt8} (hx : KL[q]? = some x) : ∃ g cap, v = .slice (some ⟨g, 0, none⟩) KL.length cap ∧ w.cell? ⟨g, q, none⟩ = some (.string ⟨x.toArray⟩) := by
  have hq := (List.getElem?_eq_some_iff.1 hx).1
  rcases h.2 with ⟨_, h0⟩ | ⟨g, cap, cur, rfl, _⟩
  · omega
  · refine ⟨g, cap, rfl, ?_⟩
    have := h.cells (g := g) rfl q (Str x) (by unfold flatS; rw [List.getElem?_map, hx]; rfl)
    rw [addr_add, Nat.zero_add] at this
    exact this
set_option maxRecDepth 100000 in
set_option maxHeartbeats 1600000 in
theorem rnew_any (me rep per : Int) (w : World) (h : newCode me rep per = 0) :
    Calls Try.prog 42 #[.int .i64 me, .int .i64 rep, .int .i64 per] w fun e w' => e = .returned (.tuple #[.pointer (some ⟨w.heap.size, 0, none⟩), .int .i64 0]) ∧ RT w.heap.size w.heap.size (.slice none 0 0) (.slice none 0 0) me rep per [] [] w' ∧ Below w.heap.size w w' := by
  have h2 : ¬ rep < 2 ∧ ¬ 16 < rep ∧ ¬ per < 1 ∧ ¬ 4 < per ∧ ¬ me < 0 ∧ ¬ rep ≤ me := by
    unfold newCode at h
    split at h
    · cases h
    · split at h
      · cases h
      · omega
  obtain ⟨a1, a2, a3, a4, a5, a6⟩ := h2
  clear h
  go_enter Try.func42, Try.ntmps42
  go_wp2_with fail
  go_ret2
  exact ⟨rfl, ⟨heap_alloc_new w _, World.ownsRow_nil _ _ _ _, World.ownsRow_nil _ _ _ _, Nat.le_refl _, by simp⟩, (Below.refl _ _).alloc (Nat.le_refl _) _⟩
set_option maxRecDepth 100000 in
set_option maxHeartbeats 1600000 in
theorem rnew_no (me rep per : Int) (w : World) (h : newCode me rep per ≠ 0) :
    Calls Try.prog 42 #[.int .i64 me, .int .i64 rep, .int .i64 per] w fun e w' => e = .returned (.tuple #[.pointer none, .int .i64 (newCode me rep per)]) ∧ w' = w := by
  by_cases h1 : rep < 2
  · have hc : newCode me rep per = 1 := by unfold newCode; rw [if_pos (Or.inl h1)]
    rw [hc]
    clear h hc
    go_enter Try.func42, Try.ntmps42
    go_wp2_with fail
    go_ret2
    exact ⟨rfl, rfl⟩
  by_cases h2 : 16 < rep
  · have hc : newCode me rep per = 1 := by unfold newCode; rw [if_pos (Or.inr (Or.inl h2))]
    rw [hc]
    clear h hc
    go_enter Try.func42, Try.ntmps42
    go_wp2_with fail
    go_ret2
    exact ⟨rfl, rfl⟩
  by_cases h3 : per < 1
  · have hc : newCode me rep per = 1 := by unfold newCode; rw [if_pos (Or.inr (Or.inr (Or.inl h3)))]
    rw [hc]
    clear h hc
    go_enter Try.func42, Try.ntmps42
    go_wp2_with fail
    go_ret2
    exact ⟨rfl, rfl⟩
  by_cases h4 : 4 < per
  · have hc : newCode me rep per = 1 := by unfold newCode; rw [if_pos (Or.inr (Or.inr (Or.inr h4)))]
    rw [hc]
    clear h hc
    go_enter Try.func42, Try.ntmps42
    go_wp2_with fail
    go_ret2
    exact ⟨rfl, rfl⟩
  have hn : ¬ (rep < 2 ∨ 16 < rep ∨ per < 1 ∨ 4 < per) := by omega
  by_cases h5 : me < 0
  · have hc : newCode me rep per = 3 := by unfold newCode; rw [if_neg hn, if_pos (Or.inl h5)]
    rw [hc]
    clear h hc hn
    go_enter Try.func42, Try.ntmps42
    go_wp2_with fail
    go_ret2
    exact ⟨rfl, rfl⟩
  by_cases h6 : rep ≤ me
  · have hc : newCode me rep per = 3 := by unfold newCode; rw [if_neg hn, if_pos (Or.inr h6)]
    rw [hc]
    clear h hc hn
    go_enter Try.func42, Try.ntmps42
    go_wp2_with fail
    go_ret2
    exact ⟨rfl, rfl⟩
  exact absurd (by unfold newCode; rw [if_neg hn, if_neg (by omega)]) h
set_option maxRecDepth 100000 in
set_option maxHeartbeats 1600000 in
theorem rknows_any {B rb : Nat} {kl wl : Value} {me rep per : Int} {KL : List (List UInt8)} {WL : List ((Int × Int) × OpA)} (n : List UInt8) (w : World) (hT : RT B rb kl wl me rep per KL WL w) (hL : KL.length ≤ 100000) :
    Calls Try.prog 58 #[.pointer (some ⟨rb, 0, none⟩), .string ⟨n.toArray⟩] w fun e w' => e = .returned (.bool (decide (n ∈ KL))) ∧ w' = w := by
  obtain ⟨ao, cap, hv, _⟩ := own_slice hT.kr
  have c3 := hT.c3
  rw [hv] at c3
  have HT : Hid _ := hT
  clear hT
  go_enter Try.func58, Try.ntmps58
  go_wp2_with fail
  go_loopw [5] (fun i wr => ∃ q : Nat, q ≤ KL.length ∧ i = .int .i64 q ∧ (∀ x ∈ KL.take q, x ≠ n) ∧ wr = w) (fun i _ => KL.length - (intOf i).toNat)
  case atStart => exact ⟨0, Nat.zero_le _, rfl, by simp, rfl⟩
  case round =>
    obtain ⟨q, hq, rfl, hpre, rfl⟩ := hrel
    by_cases hlt : q < KL.length
    · obtain ⟨x, hx⟩ : ∃ x, KL[q]? = some x := ⟨KL[q], List.getElem?_eq_getElem hlt⟩
      obtain ⟨g, cap2, hv2, hcx⟩ := strAt HT.out.kr hx
      rw [hv] at hv2
      cases hv2
      have hlti : (q : Int) < (KL.length : Int) := by omega
      by_cases he : x = n
      · have hbq : ((⟨x.toArray⟩ : ByteArray) == ⟨n.toArray⟩) = true := by rw [bytesB]; simpa using he
        have HR : Hid (decide (n ∈ KL) = true) := show decide (n ∈ KL) = true from by simpa using he ▸ List.mem_of_getElem? hx
        subst he
        clear hpre hx
        go_wp2_with fail
        go_ret
        exact ⟨by rw [HR.out]; rfl, rfl⟩
      · have hbq : ((⟨x.toArray⟩ : ByteArray) == ⟨n.toArray⟩) = false := by rw [bytesB]; simpa using he
        have HPR : Hid (∀ y ∈ KL.take (q + 1), y ≠ n) := fun y hy => by
          rw [List.take_add_one, hx] at hy
          rcases List.mem_append.1 hy with hy | hy
          · exact hpre y hy
          · simp at hy
            subst hy
            exact he
        have hb1 : (x == n) = false := by simpa using he
        have hb2 : (x.toArray == n.toArray) = false := by simpa using he
        have hb3 : decide (x = n) = false := by simpa using he
        have hb4 : ¬ ((⟨x.toArray⟩ : ByteArray) = ⟨n.toArray⟩) := by simpa using he
        clear hpre hx
        go_wp2_with fail
        trace_state
        go_roundw
        case rel => exact ⟨q + 1, by omega, by go_num, HPR.out, by first | rfl | trivial⟩
        case measure => simp [intOf]; omega
    · have hnot : ¬ (q : Int) < (KL.length : Int) := by omega
      have HR : Hid (decide (n ∈ KL) = false) := show decide (n ∈ KL) = false from by
        rw [List.take_of_length_le (by omega)] at hpre
        simpa using fun h => hpre n h rfl
      clear hpre
      go_wp2_with fail
      go_ret
      exact ⟨by rw [HR.out]; rfl, rfl⟩
def cntK (rep h : Int) (KL : List (List UInt8)) : Nat := KL.countP fun n => homeN n rep == h
theorem cntK_le (rep h : Int) (KL : List (List UInt8)) : cntK rep h KL ≤ KL.length := List.countP_le_length
theorem cntK_succ {rep h : Int} {KL : List (List UInt8)} {q : Nat} {x : List UInt8} (hx : KL[q]? = some x) : cntK rep h (KL.take (q + 1)) = cntK rep h (KL.take q) + if homeN x rep == h then 1 else 0 := by
  rw [List.take_add_one, hx]
  simp [cntK, List.countP_cons]
set_option maxRecDepth 100000 in
set_option maxHeartbeats 1600000 in
theorem of_any {B rb : Nat} {kl wl : Value} {me rep per : Int} {KL : List (List UInt8)} {WL : List ((Int × Int) × OpA)} (h : Int) (w : World) (hT : RT B rb kl wl me rep per KL WL w) (hL : KL.length ≤ 100000) (hnl : ∀ x ∈ KL, x.length ≤ 140737488355328) (hrep : -9223372036854775808 ≤ rep ∧ rep ≤ 9223372036854775807) :
    Calls Try.prog 66 #[.pointer (some ⟨rb, 0, none⟩), .int .i64 h] w fun e w' => e = .returned (.int .i64 (cntK rep h KL : Nat)) ∧ Below w.heap.size w w' := by
  obtain ⟨ao, cap, hv, _⟩ := own_slice hT.kr
  have HT : Hid _ := hT
  have HNL : Hid _ := hnl
  have H0 : Hid _ := Below.refl w.heap.size w
  have c3 := hT.c3
  rw [hv] at c3
  have HC3 : Hid (∀ wr, Below w.heap.size w wr → wr.cell? ⟨rb, 3, none⟩ = some (.slice ao KL.length cap)) := fun wr hw => (hw.cell (p := ⟨rb, 3, none⟩) (World.block_lt_of_cell? w _ c3)).trans c3
  clear hT hnl
  go_enter Try.func66, Try.ntmps66
  go_wp2_with fail
  go_loopw [5, 6] (fun s i wr => ∃ q : Nat, q ≤ KL.length ∧ i = .int .i64 q ∧ s = .int .i64 (cntK rep h (KL.take q) : Nat) ∧ Below w.heap.size w wr) (fun _ i _ => KL.length - (intOf i).toNat)
  case atStart => exact ⟨0, Nat.zero_le _, rfl, rfl, H0.out⟩
  case round =>
    obtain ⟨q, hq, rfl, rfl, hbel⟩ := hrel
    have XK := HC3.out wr hbel
    by_cases hlt : q < KL.length
    · obtain ⟨x, hx⟩ : ∃ x, KL[q]? = some x := ⟨KL[q], List.getElem?_eq_getElem hlt⟩
      have hTr := HT.out.more hbel
      obtain ⟨g, cap2, hv2, XC⟩ := strAt hTr.kr hx
      rw [hv] at hv2
      cases hv2
      have XR := hTr.c1
      have hlti : (q : Int) < (KL.length : Int) := by omega
      have HHO : Hid (∀ w, _) := fun w => rhome_any x rep w (HNL.out x (List.mem_of_getElem? hx)) hrep
      have hcl := cntK_le rep h (KL.take q)
      rw [List.length_take] at hcl
      have hwi : IntKind.i64.wrap ((cntK rep h (KL.take q) : Int) + 1) = (cntK rep h (KL.take q) : Int) + 1 := by rw [IntKind.wrap_i64]; omega
      have HBE : Hid _ := hbel
      have hsu := cntK_succ (rep := rep) (h := h) hx
      by_cases he : homeN x rep = h
      · have HP : Hid (homeN x rep = h) := he
        have HSU : Hid ((cntK rep h (KL.take (q + 1)) : Int) = (cntK rep h (KL.take q) : Int) + 1) := show (cntK rep h (KL.take (q + 1)) : Int) = (cntK rep h (KL.take q) : Int) + 1 from by rw [hsu]; simp [he]
        clear hTr hx he hsu hbel hcl
        generalize cntK rep h (KL.take q) = c at *
        go_wp2_with fail
        rename_i K hK
        try rw [show ∀ a : Act, a.put none undef = a from fun _ => rfl]
        refine wp_region_mix (fun wq => Below wr.heap.size wr wq) (fun i => i == 11 || i == 99) 99 (by kernel_rfl) rfl (by kernel_rfl) (by kernel_rfl) (by kernel_rfl) ?_
        refine withFrP (N := 33) rfl ?_
        intro f0 F0 hff
        have e0 : f0 0 = Value.pointer (some ⟨rb, 0, none⟩) := hff 0
        have e1 : f0 1 = Value.int .i64 h := hff 1
        have e6 : f0 6 = Value.int .i64 (q : Int) := hff 6
        clear hff
        have HCC : (fun wq => Below wr.heap.size wr wq) (({ wr with drawn := wr.drawn + 1 } : World)) := (Below.drew (Below.refl wr.heap.size wr))
        have V3 : ∀ wq, Below wr.heap.size wr wq → wq.cell? ⟨rb, 3, none⟩ = some (.slice (some ⟨g, 0, none⟩) KL.length cap) := fun wq hw => (hw.cell (p := ⟨rb, 3, none⟩) (World.block_lt_of_cell? wr _ XK)).trans XK
        have V1 : ∀ wq, Below wr.heap.size wr wq → wq.cell? ⟨rb, 1, none⟩ = some (.int .i64 rep) := fun wq hw => (hw.cell (p := ⟨rb, 1, none⟩) (World.block_lt_of_cell? wr _ XR)).trans XR
        have VX : ∀ wq, Below wr.heap.size wr wq → wq.cell? ⟨g, q, none⟩ = some (.string ⟨x.toArray⟩) := fun wq hw => (hw.cell (p := ⟨g, q, none⟩) (World.block_lt_of_cell? wr _ XC)).trans XC
        refine lyp F0 rfl HCC rfl (by omega) (wanted_none rfl) (v := Value.pointer (some ⟨rb, 0, none⟩)) (fun wr hwr => by simp only [execOp, (F0.eval 0 (by omega)).trans (show _ = Value.pointer (some ⟨rb, 0, none⟩) from by simp [upd, e0, e1, e6])]; first | rfl | simp [go_sem]) fun F1 => ?_
        refine lyp F1 rfl HCC rfl (by omega) (wanted_none rfl) (v := Value.pointer (some ⟨rb, 0, none⟩)) (fun wr hwr => by simp only [execOp, (F1.eval 16 (by omega)).trans (show _ = Value.pointer (some ⟨rb, 0, none⟩) from by simp [upd, e0, e1, e6])]; simp [go_sem]) fun F2 => ?_
        refine lyp F2 rfl HCC rfl (by omega) (wanted_none rfl) (v := Value.pointer (some ⟨rb, 3, none⟩)) (fun wr hwr => by simp only [execOp, (F2.eval 17 (by omega)).trans (show _ = Value.pointer (some ⟨rb, 0, none⟩) from by simp [upd, e0, e1, e6])]; simp [go_sem]) fun F3 => ?_
        refine lyp F3 rfl HCC rfl (by omega) (wanted_none rfl) (v := Value.slice (some ⟨g, 0, none⟩) KL.length cap) (fun wr hwr => by simp only [execOp, (F3.eval 18 (by omega)).trans (show _ = Value.pointer (some ⟨rb, 3, none⟩) from by simp [upd, e0, e1, e6])]; simp [go_sem, V3 _ hwr]) fun F4 => ?_
        refine lyp F4 rfl HCC rfl (by omega) (wanted_none rfl) (v := Value.int .i64 (q : Int)) (fun wr hwr => by simp only [execOp, (F4.eval 6 (by omega)).trans (show _ = Value.int .i64 (q : Int) from by simp [upd, e0, e1, e6])]; first | rfl | simp [go_sem]) fun F5 => ?_
        refine lyp F5 rfl HCC rfl (by omega) (wanted_none rfl) (v := Value.pointer (some ⟨g, q, none⟩)) (fun wr hwr => by simp only [execOp, (F5.eval 19 (by omega)).trans (show _ = Value.slice (some ⟨g, 0, none⟩) KL.length cap from by simp [upd, e0, e1, e6]), (F5.eval 20 (by omega)).trans (show _ = Value.int .i64 (q : Int) from by simp [upd, e0, e1, e6])]; simp [go_sem, hlt]) fun F6 => ?_
        refine lyp F6 rfl HCC rfl (by omega) (wanted_none rfl) (v := Value.string ⟨x.toArray⟩) (fun wr hwr => by simp only [execOp, (F6.eval 21 (by omega)).trans (show _ = Value.pointer (some ⟨g, q, none⟩) from by simp [upd, e0, e1, e6])]; simp [go_sem, VX _ hwr]) fun F7 => ?_
        refine lyp F7 rfl HCC rfl (by omega) (wanted_none rfl) (v := Value.pointer (some ⟨rb, 0, none⟩)) (fun wr hwr => by simp only [execOp, (F7.eval 0 (by omega)).trans (show _ = Value.pointer (some ⟨rb, 0, none⟩) from by simp [upd, e0, e1, e6])]; first | rfl | simp [go_sem]) fun F8 => ?_
        refine lyp F8 rfl HCC rfl (by omega) (wanted_none rfl) (v := Value.pointer (some ⟨rb, 0, none⟩)) (fun wr hwr => by simp only [execOp, (F8.eval 23 (by omega)).trans (show _ = Value.pointer (some ⟨rb, 0, none⟩) from by simp [upd, e0, e1, e6])]; simp [go_sem]) fun F9 => ?_
        refine lyp F9 rfl HCC rfl (by omega) (wanted_none rfl) (v := Value.pointer (some ⟨rb, 1, none⟩)) (fun wr hwr => by simp only [execOp, (F9.eval 24 (by omega)).trans (show _ = Value.pointer (some ⟨rb, 0, none⟩) from by simp [upd, e0, e1, e6])]; simp [go_sem]) fun F10 => ?_
        refine lyp F10 rfl HCC rfl (by omega) (wanted_none rfl) (v := Value.int .i64 rep) (fun wr hwr => by simp only [execOp, (F10.eval 25 (by omega)).trans (show _ = Value.pointer (some ⟨rb, 1, none⟩) from by simp [upd, e0, e1, e6])]; simp [go_sem, V1 _ hwr]) fun F11 => ?_
        refine lcp F11 rfl HCC rfl (by omega) (wanted_none rfl) (g := 13) (args := #[Value.string ⟨x.toArray⟩, Value.int .i64 rep]) (by simp only [execOp, resolve, invoke, List.map_toArray, List.map_cons, List.map_nil, (F11.eval 22 (by omega)).trans (show _ = Value.string ⟨x.toArray⟩ from by simp [upd, e0, e1, e6]), (F11.eval 26 (by omega)).trans (show _ = Value.int .i64 rep from by simp [upd, e0, e1, e6])]; simp [go_sem, Act.eval]) (HHO.out (({ wr with drawn := wr.drawn + 1 } : World))) ?_
        rintro e w2 ⟨rfl, hb2⟩
        refine ⟨_, rfl, fun F12 => ?_⟩
        have HC2 : (fun wq => Below wr.heap.size wr wq) w2 := (Below.drew (Below.refl wr.heap.size wr)).trans hb2
        refine lyp F12 rfl HC2 rfl (by omega) (wanted_none rfl) (v := Value.int .i64 h) (fun wr hwr => by simp only [execOp, (F12.eval 1 (by omega)).trans (show _ = Value.int .i64 h from by simp [upd, e0, e1, e6])]; first | rfl | simp [go_sem]) fun F13 => ?_
        refine lyp F13 rfl HC2 rfl (by omega) (wanted_none rfl) (v := Value.bool true) (fun wr hwr => by simp only [execOp, (F13.eval 27 (by omega)).trans (show _ = Value.int .i64 (homeN x rep) from by simp [upd, e0, e1, e6]), (F13.eval 28 (by omega)).trans (show _ = Value.int .i64 h from by simp [upd, e0, e1, e6])]; simp [go_sem, Act.eval, HP.out]) fun F14 => ?_
        refine ⟨fun _ => HC2, ?_⟩
        refine hK _ _ ?_
        clear F0 F1 F2 F3 F4 F5 F6 F7 F8 F9 F10 F11 F12 F13 F14 e0 e1 e6 HCC V3 V1 VX
        simp only [Act.put, List.setIfInBounds_toArray, List.set_cons_succ, List.set_cons_zero]

        have HB2 : Hid (Below w.heap.size w w2) := HBE.out.trans (HC2.mono HBE.out.size)
        clear HC2 hb2 XK XC XR
        go_wp2_with fail
        go_roundw
        case rel => exact ⟨q + 1, by omega, by go_num, by rw [HSU.out], HB2.out⟩
        case measure => simp [intOf]; omega
      · have HP : Hid (¬ homeN x rep = h) := he
        have HSU : Hid ((cntK rep h (KL.take (q + 1)) : Int) = (cntK rep h (KL.take q) : Int)) := show (cntK rep h (KL.take (q + 1)) : Int) = (cntK rep h (KL.take q) : Int) from by rw [hsu]; simp [he]
        clear hTr hx he hsu hbel hcl
        generalize cntK rep h (KL.take q) = c at *
        go_wp2_with fail
        rename_i K hK
        try rw [show ∀ a : Act, a.put none undef = a from fun _ => rfl]
        refine wp_region_mix (fun wq => Below wr.heap.size wr wq) (fun i => i == 11 || i == 99) 99 (by kernel_rfl) rfl (by kernel_rfl) (by kernel_rfl) (by kernel_rfl) ?_
        refine withFrP (N := 33) rfl ?_
        intro f0 F0 hff
        have e0 : f0 0 = Value.pointer (some ⟨rb, 0, none⟩) := hff 0
        have e1 : f0 1 = Value.int .i64 h := hff 1
        have e6 : f0 6 = Value.int .i64 (q : Int) := hff 6
        clear hff
        have HCC : (fun wq => Below wr.heap.size wr wq) (({ wr with drawn := wr.drawn + 1 } : World)) := (Below.drew (Below.refl wr.heap.size wr))
        have V3 : ∀ wq, Below wr.heap.size wr wq → wq.cell? ⟨rb, 3, none⟩ = some (.slice (some ⟨g, 0, none⟩) KL.length cap) := fun wq hw => (hw.cell (p := ⟨rb, 3, none⟩) (World.block_lt_of_cell? wr _ XK)).trans XK
        have V1 : ∀ wq, Below wr.heap.size wr wq → wq.cell? ⟨rb, 1, none⟩ = some (.int .i64 rep) := fun wq hw => (hw.cell (p := ⟨rb, 1, none⟩) (World.block_lt_of_cell? wr _ XR)).trans XR
        have VX : ∀ wq, Below wr.heap.size wr wq → wq.cell? ⟨g, q, none⟩ = some (.string ⟨x.toArray⟩) := fun wq hw => (hw.cell (p := ⟨g, q, none⟩) (World.block_lt_of_cell? wr _ XC)).trans XC
        refine lyp F0 rfl HCC rfl (by omega) (wanted_none rfl) (v := Value.pointer (some ⟨rb, 0, none⟩)) (fun wr hwr => by simp only [execOp, (F0.eval 0 (by omega)).trans (show _ = Value.pointer (some ⟨rb, 0, none⟩) from by simp [upd, e0, e1, e6])]; first | rfl | simp [go_sem]) fun F1 => ?_
        refine lyp F1 rfl HCC rfl (by omega) (wanted_none rfl) (v := Value.pointer (some ⟨rb, 0, none⟩)) (fun wr hwr => by simp only [execOp, (F1.eval 16 (by omega)).trans (show _ = Value.pointer (some ⟨rb, 0, none⟩) from by simp [upd, e0, e1, e6])]; simp [go_sem]) fun F2 => ?_
        refine lyp F2 rfl HCC rfl (by omega) (wanted_none rfl) (v := Value.pointer (some ⟨rb, 3, none⟩)) (fun wr hwr => by simp only [execOp, (F2.eval 17 (by omega)).trans (show _ = Value.pointer (some ⟨rb, 0, none⟩) from by simp [upd, e0, e1, e6])]; simp [go_sem]) fun F3 => ?_
        refine lyp F3 rfl HCC rfl (by omega) (wanted_none rfl) (v := Value.slice (some ⟨g, 0, none⟩) KL.length cap) (fun wr hwr => by simp only [execOp, (F3.eval 18 (by omega)).trans (show _ = Value.pointer (some ⟨rb, 3, none⟩) from by simp [upd, e0, e1, e6])]; simp [go_sem, V3 _ hwr]) fun F4 => ?_
        refine lyp F4 rfl HCC rfl (by omega) (wanted_none rfl) (v := Value.int .i64 (q : Int)) (fun wr hwr => by simp only [execOp, (F4.eval 6 (by omega)).trans (show _ = Value.int .i64 (q : Int) from by simp [upd, e0, e1, e6])]; first | rfl | simp [go_sem]) fun F5 => ?_
        refine lyp F5 rfl HCC rfl (by omega) (wanted_none rfl) (v := Value.pointer (some ⟨g, q, none⟩)) (fun wr hwr => by simp only [execOp, (F5.eval 19 (by omega)).trans (show _ = Value.slice (some ⟨g, 0, none⟩) KL.length cap from by simp [upd, e0, e1, e6]), (F5.eval 20 (by omega)).trans (show _ = Value.int .i64 (q : Int) from by simp [upd, e0, e1, e6])]; simp [go_sem, hlt]) fun F6 => ?_
        refine lyp F6 rfl HCC rfl (by omega) (wanted_none rfl) (v := Value.string ⟨x.toArray⟩) (fun wr hwr => by simp only [execOp, (F6.eval 21 (by omega)).trans (show _ = Value.pointer (some ⟨g, q, none⟩) from by simp [upd, e0, e1, e6])]; simp [go_sem, VX _ hwr]) fun F7 => ?_
        refine lyp F7 rfl HCC rfl (by omega) (wanted_none rfl) (v := Value.pointer (some ⟨rb, 0, none⟩)) (fun wr hwr => by simp only [execOp, (F7.eval 0 (by omega)).trans (show _ = Value.pointer (some ⟨rb, 0, none⟩) from by simp [upd, e0, e1, e6])]; first | rfl | simp [go_sem]) fun F8 => ?_
        refine lyp F8 rfl HCC rfl (by omega) (wanted_none rfl) (v := Value.pointer (some ⟨rb, 0, none⟩)) (fun wr hwr => by simp only [execOp, (F8.eval 23 (by omega)).trans (show _ = Value.pointer (some ⟨rb, 0, none⟩) from by simp [upd, e0, e1, e6])]; simp [go_sem]) fun F9 => ?_
        refine lyp F9 rfl HCC rfl (by omega) (wanted_none rfl) (v := Value.pointer (some ⟨rb, 1, none⟩)) (fun wr hwr => by simp only [execOp, (F9.eval 24 (by omega)).trans (show _ = Value.pointer (some ⟨rb, 0, none⟩) from by simp [upd, e0, e1, e6])]; simp [go_sem]) fun F10 => ?_
        refine lyp F10 rfl HCC rfl (by omega) (wanted_none rfl) (v := Value.int .i64 rep) (fun wr hwr => by simp only [execOp, (F10.eval 25 (by omega)).trans (show _ = Value.pointer (some ⟨rb, 1, none⟩) from by simp [upd, e0, e1, e6])]; simp [go_sem, V1 _ hwr]) fun F11 => ?_
        refine lcp F11 rfl HCC rfl (by omega) (wanted_none rfl) (g := 13) (args := #[Value.string ⟨x.toArray⟩, Value.int .i64 rep]) (by simp only [execOp, resolve, invoke, List.map_toArray, List.map_cons, List.map_nil, (F11.eval 22 (by omega)).trans (show _ = Value.string ⟨x.toArray⟩ from by simp [upd, e0, e1, e6]), (F11.eval 26 (by omega)).trans (show _ = Value.int .i64 rep from by simp [upd, e0, e1, e6])]; simp [go_sem, Act.eval]) (HHO.out (({ wr with drawn := wr.drawn + 1 } : World))) ?_
        rintro e w2 ⟨rfl, hb2⟩
        refine ⟨_, rfl, fun F12 => ?_⟩
        have HC2 : (fun wq => Below wr.heap.size wr wq) w2 := (Below.drew (Below.refl wr.heap.size wr)).trans hb2
        refine lyp F12 rfl HC2 rfl (by omega) (wanted_none rfl) (v := Value.int .i64 h) (fun wr hwr => by simp only [execOp, (F12.eval 1 (by omega)).trans (show _ = Value.int .i64 h from by simp [upd, e0, e1, e6])]; first | rfl | simp [go_sem]) fun F13 => ?_
        refine lyp F13 rfl HC2 rfl (by omega) (wanted_none rfl) (v := Value.bool false) (fun wr hwr => by simp only [execOp, (F13.eval 27 (by omega)).trans (show _ = Value.int .i64 (homeN x rep) from by simp [upd, e0, e1, e6]), (F13.eval 28 (by omega)).trans (show _ = Value.int .i64 h from by simp [upd, e0, e1, e6])]; simp [go_sem, Act.eval, HP.out]) fun F14 => ?_
        refine ⟨fun _ => HC2, ?_⟩
        refine hK _ _ ?_
        clear F0 F1 F2 F3 F4 F5 F6 F7 F8 F9 F10 F11 F12 F13 F14 e0 e1 e6 HCC V3 V1 VX
        simp only [Act.put, List.setIfInBounds_toArray, List.set_cons_succ, List.set_cons_zero]

        have HB2 : Hid (Below w.heap.size w w2) := HBE.out.trans (HC2.mono HBE.out.size)
        clear HC2 hb2 XK XC XR
        go_wp2_with fail
        go_roundw
        case rel => exact ⟨q + 1, by omega, by go_num, by rw [HSU.out], HB2.out⟩
        case measure => simp [intOf]; omega
    · have hnot : ¬ (q : Int) < (KL.length : Int) := by omega
      have HBE : Hid _ := hbel
      have HTK : Hid (KL.take q = KL) := List.take_of_length_le (by omega)
      clear hbel
      go_wp2_with fail
      go_ret
      exact ⟨by rw [HTK.out]; rfl, HBE.out⟩
end Go.Proofs.Ytgjibihhchojoaa
