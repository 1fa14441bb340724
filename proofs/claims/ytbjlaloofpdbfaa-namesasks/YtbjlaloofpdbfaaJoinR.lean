import Derived.Test.YtbjlaloofpdbfaaAllP
import Derived.Test.YtbjlaloofpdbfaaAsd
import Derived.Test.YtbjlaloofpdbfaaMk
import Derived.Test.YtbjlaloofpdbfaaLr
namespace Go.Proofs.Ytbjlaloofpdbfaa
open Go.RowKit Go.PlainAid
set_option linter.unusedVariables false
set_option linter.unusedSimpArgs false
def opcs (o : OpA) : List Value := [.int .i64 o.k, .string ⟨o.n.toArray⟩, .int .i64 o.a, .int .i64 o.b]
def askcs (p : (Int × Int) × OpA) : List Value := [.int .i64 p.1.1, .int .i64 p.1.2, .int .i64 p.2.k, .string ⟨p.2.n.toArray⟩, .int .i64 p.2.a, .int .i64 p.2.b]
def flatA (L : List ((Int × Int) × OpA)) : List Value := L.flatMap askcs
theorem flatA_append (a b : List ((Int × Int) × OpA)) : flatA (a ++ b) = flatA a ++ flatA b := by simp [flatA]
/-- The document's own table. -/
structure RT (B rb : Nat) (kl wl : Value) (me rep per : Int) (KL : List (List UInt8)) (WL : List ((Int × Int) × OpA)) (w : World) : Prop where
  blk : Blk w rb #[.int .i64 me, .int .i64 rep, .int .i64 per, kl, wl] 97
  kr : w.ownsRow B 9 1 kl KL.length (flatS KL)
  wr : w.ownsRow B 108 6 wl WL.length (flatA WL)
  lo : B ≤ rb
  low : B ≤ w.heap.size
def RA (rb : Nat) (kl wl : Value) (b : Nat) : Prop := b = rb ∨ kl.ownBlock = some b ∨ wl.ownBlock = some b
section
variable {B rb : Nat} {kl wl kl' wl' : Value} {me rep per : Int} {KL KL' : List (List UInt8)} {WL WL' : List ((Int × Int) × OpA)} {w w' w5 : World}
theorem RT.c0 (h : RT B rb kl wl me rep per KL WL w) : w.cell? ⟨rb, 0, none⟩ = some (.int .i64 me) := h.blk.cell 0
theorem RT.c1 (h : RT B rb kl wl me rep per KL WL w) : w.cell? ⟨rb, 1, none⟩ = some (.int .i64 rep) := h.blk.cell 1
theorem RT.c2 (h : RT B rb kl wl me rep per KL WL w) : w.cell? ⟨rb, 2, none⟩ = some (.int .i64 per) := h.blk.cell 2
theorem RT.c3 (h : RT B rb kl wl me rep per KL WL w) : w.cell? ⟨rb, 3, none⟩ = some kl := h.blk.cell 3
theorem RT.c4 (h : RT B rb kl wl me rep per KL WL w) : w.cell? ⟨rb, 4, none⟩ = some wl := h.blk.cell 4
theorem RT.keep (h : RT B rb kl wl me rep per KL WL w) {A : Nat → Prop} (hc : Chg A w w') (hA : ∀ b, RA rb kl wl b → ¬ A b) : RT B rb kl wl me rep per KL WL w' :=
  ⟨hc.blk h.blk (hA _ (Or.inl rfl)), ownsRow_same h.kr (fun g hg => hc.block g (ownsRow_lt h.kr hg).2 (hA _ (Or.inr (Or.inl hg)))), ownsRow_same h.wr (fun g hg => hc.block g (ownsRow_lt h.wr hg).2 (hA _ (Or.inr (Or.inr hg)))), h.lo, Nat.le_trans h.low hc.size⟩
theorem RT.more (h : RT B rb kl wl me rep per KL WL w) (hb2 : Below w.heap.size w w') : RT B rb kl wl me rep per KL WL w' := h.keep (Chg.ofBelow (fun _ => False) hb2) (fun _ _ e => e)
theorem RT.below (h : RT B rb kl wl me rep per KL WL w) (hc : Chg (RA rb kl wl) w w') : Below B w w' :=
  hc.below h.low (fun b hb => by
    rcases hb with rfl | e | e
    · exact h.lo
    · exact (ownsRow_lt h.kr e).1
    · exact (ownsRow_lt h.wr e).1)
theorem RT.knb (h : RT B rb kl wl me rep per KL WL w) {b : Nat} {D : Array Value} {U : TypeId} (hB : Blk w b D U) (hU : U ≠ 9) : ¬ kl.ownBlock = some b := fun e => by
  obtain ⟨cu, hcu⟩ := ownsRow_type h.kr e
  exact Blk.ne_t hB (show Blk w b cu 9 from hcu) hU rfl
theorem RT.wnb (h : RT B rb kl wl me rep per KL WL w) {b : Nat} {D : Array Value} {U : TypeId} (hB : Blk w b D U) (hU : U ≠ 108) : ¬ wl.ownBlock = some b := fun e => by
  obtain ⟨cu, hcu⟩ := ownsRow_type h.wr e
  exact Blk.ne_t hB (show Blk w b cu 108 from hcu) hU rfl
/-- One name more. -/
theorem RT.putK (h : RT B rb kl wl me rep per KL WL w) (hg : Grew w w5 kl kl') (ho : w5.ownsRow B 9 1 kl' KL'.length (flatS KL')) :
    RT B rb kl' wl me rep per KL' WL (w5.setCell ⟨rb, 3, none⟩ kl') ∧ Chg (RA rb kl wl) w (w5.setCell ⟨rb, 3, none⟩ kl') := by
  have hc := hg.chg
  have hb5 := hc.blk h.blk (h.knb h.blk (by decide))
  have hs : Chg (fun b => b = rb) w5 (w5.setCell ⟨rb, 3, none⟩ kl') := ⟨rfl, rfl, rfl, by simp [World.setCell], fun j hj hn => Below.heap_setCell _ _ _ _ hn⟩
  refine ⟨⟨hb5.set 3 kl', ?_, ?_, h.lo, Nat.le_trans h.low (Nat.le_trans hc.size hs.size)⟩, (hc.mono (fun b _ e => Or.inr (Or.inl e))).trans hs (fun _ _ e => Or.inl e)⟩
  · exact ownsRow_same ho (fun g e => by
      obtain ⟨cu, hcu⟩ := ownsRow_type ho e
      exact Below.heap_setCell _ _ _ _ (Blk.ne_t (show Blk w5 g cu 9 from hcu) hb5 (by decide)))
  · exact ownsRow_same h.wr (fun g e => by
      obtain ⟨cu, hcu⟩ := ownsRow_type h.wr e
      have h1 : ¬ kl.ownBlock = some g := h.knb (show Blk w g cu 108 from hcu) (by decide)
      have h2 := hc.blk (show Blk w g cu 108 from hcu) h1
      exact (Below.heap_setCell _ _ _ _ (Blk.ne_t h2 hb5 (by decide))).trans (hc.block g (ownsRow_lt h.wr e).2 h1))
/-- Another list of those that wait. -/
theorem RT.putW (h : RT B rb kl wl me rep per KL WL w) (hg : Grew w w5 wl wl') (ho : w5.ownsRow B 108 6 wl' WL'.length (flatA WL')) :
    RT B rb kl wl' me rep per KL WL' (w5.setCell ⟨rb, 4, none⟩ wl') ∧ Chg (RA rb kl wl) w (w5.setCell ⟨rb, 4, none⟩ wl') := by
  have hc := hg.chg
  have hb5 := hc.blk h.blk (h.wnb h.blk (by decide))
  have hs : Chg (fun b => b = rb) w5 (w5.setCell ⟨rb, 4, none⟩ wl') := ⟨rfl, rfl, rfl, by simp [World.setCell], fun j hj hn => Below.heap_setCell _ _ _ _ hn⟩
  refine ⟨⟨hb5.set 4 wl', ?_, ?_, h.lo, Nat.le_trans h.low (Nat.le_trans hc.size hs.size)⟩, (hc.mono (fun b _ e => Or.inr (Or.inr e))).trans hs (fun _ _ e => Or.inl e)⟩
  · exact ownsRow_same h.kr (fun g e => by
      obtain ⟨cu, hcu⟩ := ownsRow_type h.kr e
      have h1 : ¬ wl.ownBlock = some g := h.wnb (show Blk w g cu 9 from hcu) (by decide)
      have h2 := hc.blk (show Blk w g cu 9 from hcu) h1
      exact (Below.heap_setCell _ _ _ _ (Blk.ne_t h2 hb5 (by decide))).trans (hc.block g (ownsRow_lt h.kr e).2 h1))
  · exact ownsRow_same ho (fun g e => by
      obtain ⟨cu, hcu⟩ := ownsRow_type ho e
      exact Below.heap_setCell _ _ _ _ (Blk.ne_t (show Blk w5 g cu 108 from hcu) hb5 (by decide)))
end
theorem strAt {w : World} {B : Nat} {v : Value} {KL : List (List UInt8)} (h : w.ownsRow B 9 1 v KL.length (flatS KL)) {q : Nat} {x : List UInt8} (hx : KL[q]? = some x) : ∃ g cap, v = .slice (some ⟨g, 0, none⟩) KL.length cap ∧ w.cell? ⟨g, q, none⟩ = some (.string ⟨x.toArray⟩) := by
  have hq := (List.getElem?_eq_some_iff.1 hx).1
  rcases h.2 with ⟨_, h0⟩ | ⟨g, cap, cur, rfl, _⟩
  · omega
  · refine ⟨g, cap, rfl, ?_⟩
    have := h.cells (g := g) rfl q (Str x) (by unfold flatS; rw [List.getElem?_map, hx]; rfl)
    rw [addr_add, Nat.zero_add] at this
    exact this
set_option maxRecDepth 100000 in
set_option maxHeartbeats 1600000 in
theorem rnew_any (me rep per : Int) (w : World) (h : newCode me rep per = 0) :
    Calls Try.prog 42 #[.int .i64 me, .int .i64 rep, .int .i64 per] w fun e w' => e = .returned (.tuple #[.pointer (some ⟨w.heap.size, 0, none⟩), .int .i64 0]) ∧ RT w.heap.size w.heap.size (.slice none 0 0) (.slice none 0 0) me rep per [] [] w' ∧ Below w.heap.size w w' := by
  have h2 : ¬ rep < 2 ∧ ¬ 16 < rep ∧ ¬ per < 1 ∧ ¬ 4 < per ∧ ¬ me < 0 ∧ ¬ rep ≤ me := by
    unfold newCode at h
    split at h
    · cases h
    · split at h
      · cases h
      · omega
  obtain ⟨a1, a2, a3, a4, a5, a6⟩ := h2
  clear h
  go_enter Try.func42, Try.ntmps42
  go_wp2_with fail
  go_ret2
  exact ⟨rfl, ⟨heap_alloc_new w _, World.ownsRow_nil _ _ _ _, World.ownsRow_nil _ _ _ _, Nat.le_refl _, by simp⟩, (Below.refl _ _).alloc (Nat.le_refl _) _⟩
set_option maxRecDepth 100000 in
set_option maxHeartbeats 1600000 in
theorem rnew_no (me rep per : Int) (w : World) (h : newCode me rep per ≠ 0) :
    Calls Try.prog 42 #[.int .i64 me, .int .i64 rep, .int .i64 per] w fun e w' => e = .returned (.tuple #[.pointer none, .int .i64 (newCode me rep per)]) ∧ w' = w := by
  by_cases h1 : rep < 2
  · have hc : newCode me rep per = 1 := by unfold newCode; rw [if_pos (Or.inl h1)]
    rw [hc]
    clear h hc
    go_enter Try.func42, Try.ntmps42
    go_wp2_with fail
    go_ret2
    exact ⟨rfl, rfl⟩
  by_cases h2 : 16 < rep
  · have hc : newCode me rep per = 1 := by unfold newCode; rw [if_pos (Or.inr (Or.inl h2))]
    rw [hc]
    clear h hc
    go_enter Try.func42, Try.ntmps42
    go_wp2_with fail
    go_ret2
    exact ⟨rfl, rfl⟩
  by_cases h3 : per < 1
  · have hc : newCode me rep per = 1 := by unfold newCode; rw [if_pos (Or.inr (Or.inr (Or.inl h3)))]
    rw [hc]
    clear h hc
    go_enter Try.func42, Try.ntmps42
    go_wp2_with fail
    go_ret2
    exact ⟨rfl, rfl⟩
  by_cases h4 : 4 < per
  · have hc : newCode me rep per = 1 := by unfold newCode; rw [if_pos (Or.inr (Or.inr (Or.inr h4)))]
    rw [hc]
    clear h hc
    go_enter Try.func42, Try.ntmps42
    go_wp2_with fail
    go_ret2
    exact ⟨rfl, rfl⟩
  have hn : ¬ (rep < 2 ∨ 16 < rep ∨ per < 1 ∨ 4 < per) := by omega
  by_cases h5 : me < 0
  · have hc : newCode me rep per = 3 := by unfold newCode; rw [if_neg hn, if_pos (Or.inl h5)]
    rw [hc]
    clear h hc hn
    go_enter Try.func42, Try.ntmps42
    go_wp2_with fail
    go_ret2
    exact ⟨rfl, rfl⟩
  by_cases h6 : rep ≤ me
  · have hc : newCode me rep per = 3 := by unfold newCode; rw [if_neg hn, if_pos (Or.inr h6)]
    rw [hc]
    clear h hc hn
    go_enter Try.func42, Try.ntmps42
    go_wp2_with fail
    go_ret2
    exact ⟨rfl, rfl⟩
  exact absurd (by unfold newCode; rw [if_neg hn, if_neg (by omega)]) h
set_option maxRecDepth 100000 in
set_option maxHeartbeats 1600000 in
theorem rknows_any {B rb : Nat} {kl wl : Value} {me rep per : Int} {KL : List (List UInt8)} {WL : List ((Int × Int) × OpA)} (n : List UInt8) (w : World) (hT : RT B rb kl wl me rep per KL WL w) (hL : KL.length ≤ 100000) :
    Calls Try.prog 58 #[.pointer (some ⟨rb, 0, none⟩), .string ⟨n.toArray⟩] w fun e w' => e = .returned (.bool (decide (n ∈ KL))) ∧ w' = w := by
  obtain ⟨ao, cap, hv, _⟩ := own_slice hT.kr
  have c3 := hT.c3
  rw [hv] at c3
  have HT : Hid _ := hT
  clear hT
  go_enter Try.func58, Try.ntmps58
  go_wp2_with fail
  go_loopw [5] (fun i wr => ∃ q : Nat, q ≤ KL.length ∧ i = .int .i64 q ∧ (∀ x ∈ KL.take q, x ≠ n) ∧ wr = w) (fun i _ => KL.length - (intOf i).toNat)
  case atStart => exact ⟨0, Nat.zero_le _, rfl, by simp, rfl⟩
  case round =>
    obtain ⟨q, hq, rfl, hpre, rfl⟩ := hrel
    by_cases hlt : q < KL.length
    · obtain ⟨x, hx⟩ : ∃ x, KL[q]? = some x := ⟨KL[q], List.getElem?_eq_getElem hlt⟩
      obtain ⟨g, cap2, hv2, hcx⟩ := strAt HT.out.kr hx
      rw [hv] at hv2
      cases hv2
      have hlti : (q : Int) < (KL.length : Int) := by omega
      by_cases he : x = n
      · have hbq : ((⟨x.toArray⟩ : ByteArray) == ⟨n.toArray⟩) = true := by rw [bytesB]; simpa using he
        have HR : Hid (decide (n ∈ KL) = true) := show decide (n ∈ KL) = true from by simpa using he ▸ List.mem_of_getElem? hx
        subst he
        clear hpre hx
        go_wp2_with fail
        go_ret
        exact ⟨by rw [HR.out]; rfl, rfl⟩
      · have hbq : ((⟨x.toArray⟩ : ByteArray) == ⟨n.toArray⟩) = false := by rw [bytesB]; simpa using he
        have HPR : Hid (∀ y ∈ KL.take (q + 1), y ≠ n) := fun y hy => by
          rw [List.take_add_one, hx] at hy
          rcases List.mem_append.1 hy with hy | hy
          · exact hpre y hy
          · simp at hy
            subst hy
            exact he
        have hb1 : (x == n) = false := by simpa using he
        have hb2 : (x.toArray == n.toArray) = false := by simpa using he
        have hb3 : decide (x = n) = false := by simpa using he
        have hb4 : ¬ ((⟨x.toArray⟩ : ByteArray) = ⟨n.toArray⟩) := by simpa using he
        clear hpre hx
        go_wp2_with fail
        trace_state
        go_roundw
        case rel => exact ⟨q + 1, by omega, by go_num, HPR.out, by first | rfl | trivial⟩
        case measure => simp [intOf]; omega
    · have hnot : ¬ (q : Int) < (KL.length : Int) := by omega
      have HR : Hid (decide (n ∈ KL) = false) := show decide (n ∈ KL) = false from by
        rw [List.take_of_length_le (by omega)] at hpre
        simpa using fun h => hpre n h rfl
      clear hpre
      go_wp2_with fail
      go_ret
      exact ⟨by rw [HR.out]; rfl, rfl⟩
def cntK (rep h : Int) (KL : List (List UInt8)) : Nat := KL.countP fun n => homeN n rep == h
theorem cntK_le (rep h : Int) (KL : List (List UInt8)) : cntK rep h KL ≤ KL.length := List.countP_le_length
theorem cntK_succ {rep h : Int} {KL : List (List UInt8)} {q : Nat} {x : List UInt8} (hx : KL[q]? = some x) : cntK rep h (KL.take (q + 1)) = cntK rep h (KL.take q) + if homeN x rep == h then 1 else 0 := by
  rw [List.take_add_one, hx]
  simp [cntK, List.countP_cons]
set_option maxRecDepth 100000 in
set_option maxHeartbeats 1600000 in
theorem of_any {B rb : Nat} {kl wl : Value} {me rep per : Int} {KL : List (List UInt8)} {WL : List ((Int × Int) × OpA)} (h : Int) (w : World) (hT : RT B rb kl wl me rep per KL WL w) (hL : KL.length ≤ 100000) (hnl : ∀ x ∈ KL, x.length ≤ 140737488355328) (hrep : -9223372036854775808 ≤ rep ∧ rep ≤ 9223372036854775807) :
    Calls Try.prog 66 #[.pointer (some ⟨rb, 0, none⟩), .int .i64 h] w fun e w' => e = .returned (.int .i64 (cntK rep h KL : Nat)) ∧ Below w.heap.size w w' := by
  obtain ⟨ao, cap, hv, _⟩ := own_slice hT.kr
  have HT : Hid _ := hT
  have HNL : Hid _ := hnl
  have H0 : Hid _ := Below.refl w.heap.size w
  have c3 := hT.c3
  rw [hv] at c3
  have HC3 : Hid (∀ wr, Below w.heap.size w wr → wr.cell? ⟨rb, 3, none⟩ = some (.slice ao KL.length cap)) := fun wr hw => (hw.cell (p := ⟨rb, 3, none⟩) (World.block_lt_of_cell? w _ c3)).trans c3
  clear hT hnl
  go_enter Try.func66, Try.ntmps66
  go_wp2_with fail
  go_loopw [5, 6] (fun s i wr => ∃ q : Nat, q ≤ KL.length ∧ i = .int .i64 q ∧ s = .int .i64 (cntK rep h (KL.take q) : Nat) ∧ Below w.heap.size w wr) (fun _ i _ => KL.length - (intOf i).toNat)
  case atStart => exact ⟨0, Nat.zero_le _, rfl, rfl, H0.out⟩
  case round =>
    obtain ⟨q, hq, rfl, rfl, hbel⟩ := hrel
    have XK := HC3.out wr hbel
    by_cases hlt : q < KL.length
    · obtain ⟨x, hx⟩ : ∃ x, KL[q]? = some x := ⟨KL[q], List.getElem?_eq_getElem hlt⟩
      have hTr := HT.out.more hbel
      obtain ⟨g, cap2, hv2, XC⟩ := strAt hTr.kr hx
      rw [hv] at hv2
      cases hv2
      have XR := hTr.c1
      have hlti : (q : Int) < (KL.length : Int) := by omega
      have HHO : Hid (∀ w, _) := fun w => rhome_any x rep w (HNL.out x (List.mem_of_getElem? hx)) hrep
      have hcl := cntK_le rep h (KL.take q)
      rw [List.length_take] at hcl
      have hwi : IntKind.i64.wrap ((cntK rep h (KL.take q) : Int) + 1) = (cntK rep h (KL.take q) : Int) + 1 := by rw [IntKind.wrap_i64]; omega
      have HBE : Hid _ := hbel
      have hsu := cntK_succ (rep := rep) (h := h) hx
      by_cases he : homeN x rep = h
      · have HP : Hid (homeN x rep = h) := he
        have HSU : Hid ((cntK rep h (KL.take (q + 1)) : Int) = (cntK rep h (KL.take q) : Int) + 1) := show (cntK rep h (KL.take (q + 1)) : Int) = (cntK rep h (KL.take q) : Int) + 1 from by rw [hsu]; simp [he]
        clear hTr hx he hsu hbel hcl
        generalize cntK rep h (KL.take q) = c at *
        go_wp2_with fail
        rename_i K hK
        try rw [show ∀ a : Act, a.put none undef = a from fun _ => rfl]
        refine wp_region_mix (fun wq => Below wr.heap.size wr wq) (fun i => i == 11 || i == 99) 99 (by kernel_rfl) rfl (by kernel_rfl) (by kernel_rfl) (by kernel_rfl) ?_
        refine withFrP (N := 33) rfl ?_
        intro f0 F0 hff
        have e0 : f0 0 = Value.pointer (some ⟨rb, 0, none⟩) := hff 0
        have e1 : f0 1 = Value.int .i64 h := hff 1
        have e6 : f0 6 = Value.int .i64 (q : Int) := hff 6
        clear hff
        have HCC : (fun wq => Below wr.heap.size wr wq) (({ wr with drawn := wr.drawn + 1 } : World)) := (Below.drew (Below.refl wr.heap.size wr))
        have V3 : ∀ wq, Below wr.heap.size wr wq → wq.cell? ⟨rb, 3, none⟩ = some (.slice (some ⟨g, 0, none⟩) KL.length cap) := fun wq hw => (hw.cell (p := ⟨rb, 3, none⟩) (World.block_lt_of_cell? wr _ XK)).trans XK
        have V1 : ∀ wq, Below wr.heap.size wr wq → wq.cell? ⟨rb, 1, none⟩ = some (.int .i64 rep) := fun wq hw => (hw.cell (p := ⟨rb, 1, none⟩) (World.block_lt_of_cell? wr _ XR)).trans XR
        have VX : ∀ wq, Below wr.heap.size wr wq → wq.cell? ⟨g, q, none⟩ = some (.string ⟨x.toArray⟩) := fun wq hw => (hw.cell (p := ⟨g, q, none⟩) (World.block_lt_of_cell? wr _ XC)).trans XC
        refine lyp F0 rfl HCC rfl (by omega) (wanted_none rfl) (v := Value.pointer (some ⟨rb, 0, none⟩)) (fun wr hwr => by simp only [execOp, (F0.eval 0 (by omega)).trans (show _ = Value.pointer (some ⟨rb, 0, none⟩) from by simp [upd, e0, e1, e6])]; first | rfl | simp [go_sem]) fun F1 => ?_
        refine lyp F1 rfl HCC rfl (by omega) (wanted_none rfl) (v := Value.pointer (some ⟨rb, 0, none⟩)) (fun wr hwr => by simp only [execOp, (F1.eval 16 (by omega)).trans (show _ = Value.pointer (some ⟨rb, 0, none⟩) from by simp [upd, e0, e1, e6])]; simp [go_sem]) fun F2 => ?_
        refine lyp F2 rfl HCC rfl (by omega) (wanted_none rfl) (v := Value.pointer (some ⟨rb, 3, none⟩)) (fun wr hwr => by simp only [execOp, (F2.eval 17 (by omega)).trans (show _ = Value.pointer (some ⟨rb, 0, none⟩) from by simp [upd, e0, e1, e6])]; simp [go_sem]) fun F3 => ?_
        refine lyp F3 rfl HCC rfl (by omega) (wanted_none rfl) (v := Value.slice (some ⟨g, 0, none⟩) KL.length cap) (fun wr hwr => by simp only [execOp, (F3.eval 18 (by omega)).trans (show _ = Value.pointer (some ⟨rb, 3, none⟩) from by simp [upd, e0, e1, e6])]; simp [go_sem, V3 _ hwr]) fun F4 => ?_
        refine lyp F4 rfl HCC rfl (by omega) (wanted_none rfl) (v := Value.int .i64 (q : Int)) (fun wr hwr => by simp only [execOp, (F4.eval 6 (by omega)).trans (show _ = Value.int .i64 (q : Int) from by simp [upd, e0, e1, e6])]; first | rfl | simp [go_sem]) fun F5 => ?_
        refine lyp F5 rfl HCC rfl (by omega) (wanted_none rfl) (v := Value.pointer (some ⟨g, q, none⟩)) (fun wr hwr => by simp only [execOp, (F5.eval 19 (by omega)).trans (show _ = Value.slice (some ⟨g, 0, none⟩) KL.length cap from by simp [upd, e0, e1, e6]), (F5.eval 20 (by omega)).trans (show _ = Value.int .i64 (q : Int) from by simp [upd, e0, e1, e6])]; simp [go_sem, hlt]) fun F6 => ?_
        refine lyp F6 rfl HCC rfl (by omega) (wanted_none rfl) (v := Value.string ⟨x.toArray⟩) (fun wr hwr => by simp only [execOp, (F6.eval 21 (by omega)).trans (show _ = Value.pointer (some ⟨g, q, none⟩) from by simp [upd, e0, e1, e6])]; simp [go_sem, VX _ hwr]) fun F7 => ?_
        refine lyp F7 rfl HCC rfl (by omega) (wanted_none rfl) (v := Value.pointer (some ⟨rb, 0, none⟩)) (fun wr hwr => by simp only [execOp, (F7.eval 0 (by omega)).trans (show _ = Value.pointer (some ⟨rb, 0, none⟩) from by simp [upd, e0, e1, e6])]; first | rfl | simp [go_sem]) fun F8 => ?_
        refine lyp F8 rfl HCC rfl (by omega) (wanted_none rfl) (v := Value.pointer (some ⟨rb, 0, none⟩)) (fun wr hwr => by simp only [execOp, (F8.eval 23 (by omega)).trans (show _ = Value.pointer (some ⟨rb, 0, none⟩) from by simp [upd, e0, e1, e6])]; simp [go_sem]) fun F9 => ?_
        refine lyp F9 rfl HCC rfl (by omega) (wanted_none rfl) (v := Value.pointer (some ⟨rb, 1, none⟩)) (fun wr hwr => by simp only [execOp, (F9.eval 24 (by omega)).trans (show _ = Value.pointer (some ⟨rb, 0, none⟩) from by simp [upd, e0, e1, e6])]; simp [go_sem]) fun F10 => ?_
        refine lyp F10 rfl HCC rfl (by omega) (wanted_none rfl) (v := Value.int .i64 rep) (fun wr hwr => by simp only [execOp, (F10.eval 25 (by omega)).trans (show _ = Value.pointer (some ⟨rb, 1, none⟩) from by simp [upd, e0, e1, e6])]; simp [go_sem, V1 _ hwr]) fun F11 => ?_
        refine lcp F11 rfl HCC rfl (by omega) (wanted_none rfl) (g := 13) (args := #[Value.string ⟨x.toArray⟩, Value.int .i64 rep]) (by simp only [execOp, resolve, invoke, List.map_toArray, List.map_cons, List.map_nil, (F11.eval 22 (by omega)).trans (show _ = Value.string ⟨x.toArray⟩ from by simp [upd, e0, e1, e6]), (F11.eval 26 (by omega)).trans (show _ = Value.int .i64 rep from by simp [upd, e0, e1, e6])]; simp [go_sem, Act.eval]) (HHO.out (({ wr with drawn := wr.drawn + 1 } : World))) ?_
        rintro e w2 ⟨rfl, hb2⟩
        refine ⟨_, rfl, fun F12 => ?_⟩
        have HC2 : (fun wq => Below wr.heap.size wr wq) w2 := (Below.drew (Below.refl wr.heap.size wr)).trans hb2
        refine lyp F12 rfl HC2 rfl (by omega) (wanted_none rfl) (v := Value.int .i64 h) (fun wr hwr => by simp only [execOp, (F12.eval 1 (by omega)).trans (show _ = Value.int .i64 h from by simp [upd, e0, e1, e6])]; first | rfl | simp [go_sem]) fun F13 => ?_
        refine lyp F13 rfl HC2 rfl (by omega) (wanted_none rfl) (v := Value.bool true) (fun wr hwr => by simp only [execOp, (F13.eval 27 (by omega)).trans (show _ = Value.int .i64 (homeN x rep) from by simp [upd, e0, e1, e6]), (F13.eval 28 (by omega)).trans (show _ = Value.int .i64 h from by simp [upd, e0, e1, e6])]; simp [go_sem, Act.eval, HP.out]) fun F14 => ?_
        refine ⟨fun _ => HC2, ?_⟩
        refine hK _ _ ?_
        clear F0 F1 F2 F3 F4 F5 F6 F7 F8 F9 F10 F11 F12 F13 F14 e0 e1 e6 HCC V3 V1 VX
        simp only [Act.put, List.setIfInBounds_toArray, List.set_cons_succ, List.set_cons_zero]

        have HB2 : Hid (Below w.heap.size w w2) := HBE.out.trans (HC2.mono HBE.out.size)
        clear HC2 hb2 XK XC XR
        go_wp2_with fail
        go_roundw
        case rel => exact ⟨q + 1, by omega, by go_num, by rw [HSU.out], HB2.out⟩
        case measure => simp [intOf]; omega
      · have HP : Hid (¬ homeN x rep = h) := he
        have HSU : Hid ((cntK rep h (KL.take (q + 1)) : Int) = (cntK rep h (KL.take q) : Int)) := show (cntK rep h (KL.take (q + 1)) : Int) = (cntK rep h (KL.take q) : Int) from by rw [hsu]; simp [he]
        clear hTr hx he hsu hbel hcl
        generalize cntK rep h (KL.take q) = c at *
        go_wp2_with fail
        rename_i K hK
        try rw [show ∀ a : Act, a.put none undef = a from fun _ => rfl]
        refine wp_region_mix (fun wq => Below wr.heap.size wr wq) (fun i => i == 11 || i == 99) 99 (by kernel_rfl) rfl (by kernel_rfl) (by kernel_rfl) (by kernel_rfl) ?_
        refine withFrP (N := 33) rfl ?_
        intro f0 F0 hff
        have e0 : f0 0 = Value.pointer (some ⟨rb, 0, none⟩) := hff 0
        have e1 : f0 1 = Value.int .i64 h := hff 1
        have e6 : f0 6 = Value.int .i64 (q : Int) := hff 6
        clear hff
        have HCC : (fun wq => Below wr.heap.size wr wq) (({ wr with drawn := wr.drawn + 1 } : World)) := (Below.drew (Below.refl wr.heap.size wr))
        have V3 : ∀ wq, Below wr.heap.size wr wq → wq.cell? ⟨rb, 3, none⟩ = some (.slice (some ⟨g, 0, none⟩) KL.length cap) := fun wq hw => (hw.cell (p := ⟨rb, 3, none⟩) (World.block_lt_of_cell? wr _ XK)).trans XK
        have V1 : ∀ wq, Below wr.heap.size wr wq → wq.cell? ⟨rb, 1, none⟩ = some (.int .i64 rep) := fun wq hw => (hw.cell (p := ⟨rb, 1, none⟩) (World.block_lt_of_cell? wr _ XR)).trans XR
        have VX : ∀ wq, Below wr.heap.size wr wq → wq.cell? ⟨g, q, none⟩ = some (.string ⟨x.toArray⟩) := fun wq hw => (hw.cell (p := ⟨g, q, none⟩) (World.block_lt_of_cell? wr _ XC)).trans XC
        refine lyp F0 rfl HCC rfl (by omega) (wanted_none rfl) (v := Value.pointer (some ⟨rb, 0, none⟩)) (fun wr hwr => by simp only [execOp, (F0.eval 0 (by omega)).trans (show _ = Value.pointer (some ⟨rb, 0, none⟩) from by simp [upd, e0, e1, e6])]; first | rfl | simp [go_sem]) fun F1 => ?_
        refine lyp F1 rfl HCC rfl (by omega) (wanted_none rfl) (v := Value.pointer (some ⟨rb, 0, none⟩)) (fun wr hwr => by simp only [execOp, (F1.eval 16 (by omega)).trans (show _ = Value.pointer (some ⟨rb, 0, none⟩) from by simp [upd, e0, e1, e6])]; simp [go_sem]) fun F2 => ?_
        refine lyp F2 rfl HCC rfl (by omega) (wanted_none rfl) (v := Value.pointer (some ⟨rb, 3, none⟩)) (fun wr hwr => by simp only [execOp, (F2.eval 17 (by omega)).trans (show _ = Value.pointer (some ⟨rb, 0, none⟩) from by simp [upd, e0, e1, e6])]; simp [go_sem]) fun F3 => ?_
        refine lyp F3 rfl HCC rfl (by omega) (wanted_none rfl) (v := Value.slice (some ⟨g, 0, none⟩) KL.length cap) (fun wr hwr => by simp only [execOp, (F3.eval 18 (by omega)).trans (show _ = Value.pointer (some ⟨rb, 3, none⟩) from by simp [upd, e0, e1, e6])]; simp [go_sem, V3 _ hwr]) fun F4 => ?_
        refine lyp F4 rfl HCC rfl (by omega) (wanted_none rfl) (v := Value.int .i64 (q : Int)) (fun wr hwr => by simp only [execOp, (F4.eval 6 (by omega)).trans (show _ = Value.int .i64 (q : Int) from by simp [upd, e0, e1, e6])]; first | rfl | simp [go_sem]) fun F5 => ?_
        refine lyp F5 rfl HCC rfl (by omega) (wanted_none rfl) (v := Value.pointer (some ⟨g, q, none⟩)) (fun wr hwr => by simp only [execOp, (F5.eval 19 (by omega)).trans (show _ = Value.slice (some ⟨g, 0, none⟩) KL.length cap from by simp [upd, e0, e1, e6]), (F5.eval 20 (by omega)).trans (show _ = Value.int .i64 (q : Int) from by simp [upd, e0, e1, e6])]; simp [go_sem, hlt]) fun F6 => ?_
        refine lyp F6 rfl HCC rfl (by omega) (wanted_none rfl) (v := Value.string ⟨x.toArray⟩) (fun wr hwr => by simp only [execOp, (F6.eval 21 (by omega)).trans (show _ = Value.pointer (some ⟨g, q, none⟩) from by simp [upd, e0, e1, e6])]; simp [go_sem, VX _ hwr]) fun F7 => ?_
        refine lyp F7 rfl HCC rfl (by omega) (wanted_none rfl) (v := Value.pointer (some ⟨rb, 0, none⟩)) (fun wr hwr => by simp only [execOp, (F7.eval 0 (by omega)).trans (show _ = Value.pointer (some ⟨rb, 0, none⟩) from by simp [upd, e0, e1, e6])]; first | rfl | simp [go_sem]) fun F8 => ?_
        refine lyp F8 rfl HCC rfl (by omega) (wanted_none rfl) (v := Value.pointer (some ⟨rb, 0, none⟩)) (fun wr hwr => by simp only [execOp, (F8.eval 23 (by omega)).trans (show _ = Value.pointer (some ⟨rb, 0, none⟩) from by simp [upd, e0, e1, e6])]; simp [go_sem]) fun F9 => ?_
        refine lyp F9 rfl HCC rfl (by omega) (wanted_none rfl) (v := Value.pointer (some ⟨rb, 1, none⟩)) (fun wr hwr => by simp only [execOp, (F9.eval 24 (by omega)).trans (show _ = Value.pointer (some ⟨rb, 0, none⟩) from by simp [upd, e0, e1, e6])]; simp [go_sem]) fun F10 => ?_
        refine lyp F10 rfl HCC rfl (by omega) (wanted_none rfl) (v := Value.int .i64 rep) (fun wr hwr => by simp only [execOp, (F10.eval 25 (by omega)).trans (show _ = Value.pointer (some ⟨rb, 1, none⟩) from by simp [upd, e0, e1, e6])]; simp [go_sem, V1 _ hwr]) fun F11 => ?_
        refine lcp F11 rfl HCC rfl (by omega) (wanted_none rfl) (g := 13) (args := #[Value.string ⟨x.toArray⟩, Value.int .i64 rep]) (by simp only [execOp, resolve, invoke, List.map_toArray, List.map_cons, List.map_nil, (F11.eval 22 (by omega)).trans (show _ = Value.string ⟨x.toArray⟩ from by simp [upd, e0, e1, e6]), (F11.eval 26 (by omega)).trans (show _ = Value.int .i64 rep from by simp [upd, e0, e1, e6])]; simp [go_sem, Act.eval]) (HHO.out (({ wr with drawn := wr.drawn + 1 } : World))) ?_
        rintro e w2 ⟨rfl, hb2⟩
        refine ⟨_, rfl, fun F12 => ?_⟩
        have HC2 : (fun wq => Below wr.heap.size wr wq) w2 := (Below.drew (Below.refl wr.heap.size wr)).trans hb2
        refine lyp F12 rfl HC2 rfl (by omega) (wanted_none rfl) (v := Value.int .i64 h) (fun wr hwr => by simp only [execOp, (F12.eval 1 (by omega)).trans (show _ = Value.int .i64 h from by simp [upd, e0, e1, e6])]; first | rfl | simp [go_sem]) fun F13 => ?_
        refine lyp F13 rfl HC2 rfl (by omega) (wanted_none rfl) (v := Value.bool false) (fun wr hwr => by simp only [execOp, (F13.eval 27 (by omega)).trans (show _ = Value.int .i64 (homeN x rep) from by simp [upd, e0, e1, e6]), (F13.eval 28 (by omega)).trans (show _ = Value.int .i64 h from by simp [upd, e0, e1, e6])]; simp [go_sem, Act.eval, HP.out]) fun F14 => ?_
        refine ⟨fun _ => HC2, ?_⟩
        refine hK _ _ ?_
        clear F0 F1 F2 F3 F4 F5 F6 F7 F8 F9 F10 F11 F12 F13 F14 e0 e1 e6 HCC V3 V1 VX
        simp only [Act.put, List.setIfInBounds_toArray, List.set_cons_succ, List.set_cons_zero]

        have HB2 : Hid (Below w.heap.size w w2) := HBE.out.trans (HC2.mono HBE.out.size)
        clear HC2 hb2 XK XC XR
        go_wp2_with fail
        go_roundw
        case rel => exact ⟨q + 1, by omega, by go_num, by rw [HSU.out], HB2.out⟩
        case measure => simp [intOf]; omega
    · have hnot : ¬ (q : Int) < (KL.length : Int) := by omega
      have HBE : Hid _ := hbel
      have HTK : Hid (KL.take q = KL) := List.take_of_length_le (by omega)
      clear hbel
      go_wp2_with fail
      go_ret
      exact ⟨by rw [HTK.out]; rfl, HBE.out⟩
end Go.Proofs.Ytbjlaloofpdbfaa
namespace Go.Proofs.Ytbjlaloofpdbfaa
open Go.RowKit Go.PlainAid
set_option linter.unusedVariables false
set_option linter.unusedSimpArgs false
theorem wpList_appS {w : World} {ops : Array Oper} {rest : List Oper} {o : Oper} {a : Act} {Q : Exit → Act → World → Prop} (hgd : o.guard = none) (s x : Operand)
    (ho : o.op = .call { callee := .builtin .append, args := #[s, x], argTypes := #[51, 51] })
    (base k : Nat) (v : Value) (es : List (List UInt8)) (hs : a.eval s = v) (hown : w.ownsRow base 9 1 v k (flatS es)) (n : List UInt8) {g : Nat} (hx : a.eval x = .slice (some ⟨g, 0, none⟩) 1 1) (hgs : g = w.heap.size) (hlen : k ≤ 100000) (hbase : base ≤ w.heap.size)
    (h : ∀ v' w', w'.ownsRow base 9 1 v' (k + 1) (flatS (es ++ [n])) → Grew w w' v v' → wpList Try.prog ops Q rest (a.put o.dst v') w') :
    wpList Try.prog ops Q (o :: rest) a (w.alloc (.cells #[.string ⟨n.toArray⟩] 9)) := by
  subst hgs
  refine wpList_app 51 9 (.string ⟨#[]⟩) 1 16 Try.underlying51 info9 rfl (by decide) (by decide) hgd s x ho base k v (flatS es) hs (hown.alloc _) ⟨w.heap.size, 0, none⟩ 1 1 [Str n] hx rfl (fun j u hu => ?_) (fun u hu => by simp at hu; subst hu; rfl) (by omega) (by rw [World.size_alloc]; omega) ?_
  · rw [addr_add, Nat.zero_add]
    have hB : Blk (w.alloc (.cells #[.string ⟨n.toArray⟩] 9)) w.heap.size #[.string ⟨n.toArray⟩] 9 := heap_alloc_new w _
    rw [hB.cell j]
    simpa [Str] using hu
  · intro v' w' h1 h2 _
    refine h v' w' ?_ h2.ofAlloc
    rw [flatS_append]
    exact h1
def rmc (me rep per : Int) (KL : List (List UInt8)) (n : List UInt8) : Int := if nameB n = false then 1 else if homeN n rep ≠ me then 3 else if n ∈ KL then 101 else if per ≤ (cntK rep me KL : Int) then 102 else 0
def rmn (me rep per : Int) (KL : List (List UInt8)) (n : List UInt8) : List (List UInt8) := if rmc me rep per KL n = 0 then KL ++ [n] else KL
def rlb (me rep per : Int) (KL : List (List UInt8)) (n : List UInt8) : Bool := nameB n && !decide (n ∈ KL) && !decide (homeN n rep = me) && decide ((cntK rep (homeN n rep) KL : Int) < per)
def rln (me rep per : Int) (KL : List (List UInt8)) (n : List UInt8) : List (List UInt8) := if rlb me rep per KL n = true then KL ++ [n] else KL
/-- What a call of the reference leaves: the table as it is then; which blocks may have changed. -/
def RPost (B rb : Nat) (kl wl : Value) (me rep per : Int) (KL : List (List UInt8)) (WL : List ((Int × Int) × OpA)) (w w' : World) : Prop := Chg (RA rb kl wl) w w' ∧ ∃ kl' wl', RT B rb kl' wl' me rep per KL WL w' ∧ (∀ b, RA rb kl' wl' b → RA rb kl wl b ∨ w.heap.size ≤ b)
theorem RPost.same {B rb : Nat} {kl wl : Value} {me rep per : Int} {KL : List (List UInt8)} {WL : List ((Int × Int) × OpA)} {w w' : World} (h : RT B rb kl wl me rep per KL WL w) (hb : Below w.heap.size w w') : RPost B rb kl wl me rep per KL WL w w' := ⟨Chg.ofBelow _ hb, kl, wl, h.more hb, fun b e => Or.inl e⟩
theorem RPost.ofK {B rb : Nat} {kl wl kl' : Value} {me rep per : Int} {KL KL' : List (List UInt8)} {WL : List ((Int × Int) × OpA)} {w wx w5 : World} (h : RT B rb kl wl me rep per KL WL w) (hb : Below w.heap.size w wx) (hg : Grew wx w5 kl kl') (ho : w5.ownsRow B 9 1 kl' KL'.length (flatS KL')) : RPost B rb kl wl me rep per KL' WL w (w5.setCell ⟨rb, 3, none⟩ kl') := by
  obtain ⟨h1, h2⟩ := (h.more hb).putK hg ho
  refine ⟨(Chg.ofBelow (RA rb kl wl) hb).trans h2 (fun _ _ e => e), kl', wl, h1, fun b e => ?_⟩
  rcases e with e | e | e
  · exact Or.inl (Or.inl e)
  · rcases hg.at' b e with h | h
    · exact Or.inl (Or.inr (Or.inl h))
    · exact Or.inr (Nat.le_trans hb.size h)
  · exact Or.inl (Or.inr (Or.inr e))
theorem RPost.ofW {B rb : Nat} {kl wl wl' : Value} {me rep per : Int} {KL : List (List UInt8)} {WL WL' : List ((Int × Int) × OpA)} {w wx w5 : World} (h : RT B rb kl wl me rep per KL WL w) (hb : Below w.heap.size w wx) (hg : Grew wx w5 wl wl') (ho : w5.ownsRow B 108 6 wl' WL'.length (flatA WL')) : RPost B rb kl wl me rep per KL WL' w (w5.setCell ⟨rb, 4, none⟩ wl') := by
  obtain ⟨h1, h2⟩ := (h.more hb).putW hg ho
  refine ⟨(Chg.ofBelow (RA rb kl wl) hb).trans h2 (fun _ _ e => e), kl, wl', h1, fun b e => ?_⟩
  rcases e with e | e | e
  · exact Or.inl (Or.inl e)
  · exact Or.inl (Or.inr (Or.inl e))
  · rcases hg.at' b e with h | h
    · exact Or.inl (Or.inr (Or.inr h))
    · exact Or.inr (Nat.le_trans hb.size h)
set_option maxRecDepth 100000 in
set_option maxHeartbeats 1600000 in
theorem rmake_any {B rb : Nat} {kl wl : Value} {me rep per : Int} {KL : List (List UInt8)} {WL : List ((Int × Int) × OpA)} (n : List UInt8) (w : World) (hT : RT B rb kl wl me rep per KL WL w) (hL : KL.length ≤ 100000) (hnl : ∀ x ∈ KL, x.length ≤ 140737488355328) (hl : n.length ≤ 140737488355328) (hrep : -9223372036854775808 ≤ rep ∧ rep ≤ 9223372036854775807) :
    Calls Try.prog 54 #[.pointer (some ⟨rb, 0, none⟩), .string ⟨n.toArray⟩] w fun q w' => q = .returned (.int .i64 (rmc me rep per KL n)) ∧ RPost B rb kl wl me rep per (rmn me rep per KL n) WL w w' := by
  have HG : Hid (∀ w, _) := fun w => rgood_any n w (by omega)
  have HHO : Hid (∀ w, _) := fun w => rhome_any n rep w (by omega) hrep
  have HK : Hid _ := rknows_any n w hT hL
  have HOF : Hid (∀ w' : World, RT B rb kl wl me rep per KL WL w' → _) := fun w' h => of_any me w' h hL hnl hrep
  have HT : Hid _ := hT
  unfold rmn
  obtain ⟨kn, hkn⟩ : ∃ kn, kn = decide (n ∈ KL) := ⟨_, rfl⟩
  rw [← hkn] at HK
  by_cases g1 : nameB n = false
  · have hc : rmc me rep per KL n = 1 := by unfold rmc; rw [if_pos g1]
    rw [hc, if_neg (by decide)]
    clear hc hT hL hnl hrep
    go_enter Try.func54, Try.ntmps54
    go_wp2_with fail
    refine Calls.mono (HG.out _) ?_
    rintro e w' ⟨rfl, hw'⟩
    replace hw' := hw'.symm
    subst hw'
    go_wp2_with fail
    refine Calls.mono HK.out ?_
    rintro e w' ⟨rfl, hw'⟩
    replace hw' := hw'.symm
    subst hw'
    try rw [g1]
    go_wp2_with fail
    go_ret
    exact ⟨rfl, RPost.same HT.out (Below.refl _ _)⟩
  have g1t : nameB n = true := by simpa using g1
  by_cases g2 : homeN n rep ≠ me
  · have hc : rmc me rep per KL n = 3 := by unfold rmc; rw [if_neg g1, if_pos g2]
    rw [hc, if_neg (by decide)]
    have HP : Hid (¬ homeN n rep = me) := g2
    clear hc hT hL hnl hrep g1 g2
    go_enter Try.func54, Try.ntmps54
    go_wp2_with fail
    refine Calls.mono (HG.out _) ?_
    rintro e w' ⟨rfl, hw'⟩
    replace hw' := hw'.symm
    subst hw'
    go_wp2_with fail
    refine Calls.mono HK.out ?_
    rintro e w' ⟨rfl, hw'⟩
    replace hw' := hw'.symm
    subst hw'
    try rw [g1t]
    go_wp2_with fail
    rename_i K hK
    try rw [show ∀ a : Act, a.put none undef = a from fun _ => rfl]
    refine wp_region_mix (fun wq => Below w.heap.size w wq) (fun i => i == 5 || i == 99) 99 (by kernel_rfl) rfl (by kernel_rfl) (by kernel_rfl) (by kernel_rfl) ?_
    refine withFrP (N := 51) rfl ?_
    intro f0 F0 hff
    have e0 : f0 0 = Value.pointer (some ⟨rb, 0, none⟩) := hff 0
    have e1 : f0 1 = Value.string ⟨n.toArray⟩ := hff 1
    clear hff
    have HCC : (fun wq => Below w.heap.size w wq) (({ w with drawn := w.drawn + 1 } : World)) := (Below.drew (Below.refl w.heap.size w))
    have V0 : ∀ wr, Below w.heap.size w wr → wr.cell? ⟨rb, 0, none⟩ = some (.int .i64 me) := fun wr hw => (hw.cell (p := ⟨rb, 0, none⟩) (World.block_lt_of_cell? w _ HT.out.c0)).trans HT.out.c0
    have V1 : ∀ wr, Below w.heap.size w wr → wr.cell? ⟨rb, 1, none⟩ = some (.int .i64 rep) := fun wr hw => (hw.cell (p := ⟨rb, 1, none⟩) (World.block_lt_of_cell? w _ HT.out.c1)).trans HT.out.c1
    refine lyp F0 rfl HCC rfl (by omega) (wanted_none rfl) (v := Value.string ⟨n.toArray⟩) (fun wr hwr => by simp only [execOp, (F0.eval 1 (by omega)).trans (show _ = Value.string ⟨n.toArray⟩ from by simp [upd, e0, e1])]; first | rfl | simp [go_sem]) fun F1 => ?_
    refine lyp F1 rfl HCC rfl (by omega) (wanted_none rfl) (v := Value.pointer (some ⟨rb, 0, none⟩)) (fun wr hwr => by simp only [execOp, (F1.eval 0 (by omega)).trans (show _ = Value.pointer (some ⟨rb, 0, none⟩) from by simp [upd, e0, e1])]; first | rfl | simp [go_sem]) fun F2 => ?_
    refine lyp F2 rfl HCC rfl (by omega) (wanted_none rfl) (v := Value.pointer (some ⟨rb, 0, none⟩)) (fun wr hwr => by simp only [execOp, (F2.eval 17 (by omega)).trans (show _ = Value.pointer (some ⟨rb, 0, none⟩) from by simp [upd, e0, e1])]; simp [go_sem]) fun F3 => ?_
    refine lyp F3 rfl HCC rfl (by omega) (wanted_none rfl) (v := Value.pointer (some ⟨rb, 1, none⟩)) (fun wr hwr => by simp only [execOp, (F3.eval 18 (by omega)).trans (show _ = Value.pointer (some ⟨rb, 0, none⟩) from by simp [upd, e0, e1])]; simp [go_sem]) fun F4 => ?_
    refine lyp F4 rfl HCC rfl (by omega) (wanted_none rfl) (v := Value.int .i64 rep) (fun wr hwr => by simp only [execOp, (F4.eval 19 (by omega)).trans (show _ = Value.pointer (some ⟨rb, 1, none⟩) from by simp [upd, e0, e1])]; simp [go_sem, V1 wr hwr]) fun F5 => ?_
    refine lcp F5 rfl HCC rfl (by omega) (wanted_none rfl) (g := 13) (args := #[Value.string ⟨n.toArray⟩, Value.int .i64 rep]) (by simp only [execOp, resolve, invoke, List.map_toArray, List.map_cons, List.map_nil, (F5.eval 16 (by omega)).trans (show _ = Value.string ⟨n.toArray⟩ from by simp [upd, e0, e1]), (F5.eval 20 (by omega)).trans (show _ = Value.int .i64 rep from by simp [upd, e0, e1])]; simp [go_sem, Act.eval]) (HHO.out (({ w with drawn := w.drawn + 1 } : World))) ?_
    rintro e w2 ⟨rfl, hb2⟩
    refine ⟨_, rfl, fun F6 => ?_⟩
    have HC2 : (fun wq => Below w.heap.size w wq) w2 := (Below.drew (Below.refl w.heap.size w)).trans hb2
    refine lyp F6 rfl HC2 rfl (by omega) (wanted_none rfl) (v := Value.pointer (some ⟨rb, 0, none⟩)) (fun wr hwr => by simp only [execOp, (F6.eval 0 (by omega)).trans (show _ = Value.pointer (some ⟨rb, 0, none⟩) from by simp [upd, e0, e1])]; first | rfl | simp [go_sem]) fun F7 => ?_
    refine lyp F7 rfl HC2 rfl (by omega) (wanted_none rfl) (v := Value.pointer (some ⟨rb, 0, none⟩)) (fun wr hwr => by simp only [execOp, (F7.eval 22 (by omega)).trans (show _ = Value.pointer (some ⟨rb, 0, none⟩) from by simp [upd, e0, e1])]; simp [go_sem]) fun F8 => ?_
    refine lyp F8 rfl HC2 rfl (by omega) (wanted_none rfl) (v := Value.pointer (some ⟨rb, 0, none⟩)) (fun wr hwr => by simp only [execOp, (F8.eval 23 (by omega)).trans (show _ = Value.pointer (some ⟨rb, 0, none⟩) from by simp [upd, e0, e1])]; simp [go_sem]) fun F9 => ?_
    refine lyp F9 rfl HC2 rfl (by omega) (wanted_none rfl) (v := Value.int .i64 me) (fun wr hwr => by simp only [execOp, (F9.eval 24 (by omega)).trans (show _ = Value.pointer (some ⟨rb, 0, none⟩) from by simp [upd, e0, e1])]; simp [go_sem, V0 wr hwr]) fun F10 => ?_
    refine lyp F10 rfl HC2 rfl (by omega) (wanted_none rfl) (v := Value.bool true) (fun wr hwr => by simp only [execOp, (F10.eval 21 (by omega)).trans (show _ = Value.int .i64 (homeN n rep) from by simp [upd, e0, e1]), (F10.eval 25 (by omega)).trans (show _ = Value.int .i64 me from by simp [upd, e0, e1])]; simp [go_sem, Act.eval, HP.out]) fun F11 => ?_
    refine lyp F11 rfl HC2 rfl (by omega) (wanted_none rfl) (v := Value.bool true) (fun wr hwr => by simp only [execOp, (F11.eval 26 (by omega)).trans (show _ = Value.bool true from by simp [upd, e0, e1])]; first | rfl | simp [go_sem]) fun F12 => ?_
    refine ⟨fun _ => HC2, ?_⟩
    refine hK _ _ ?_
    clear F0 F1 F2 F3 F4 F5 F6 F7 F8 F9 F10 F11 F12 e0 e1 HCC V0 V1
    simp only [Act.put, List.setIfInBounds_toArray, List.set_cons_succ, List.set_cons_zero]

    have HB2 : Hid _ := HC2
    clear HC2 hb2
    go_wp2_with fail
    go_ret
    exact ⟨rfl, RPost.same HT.out HB2.out⟩
  have g2e : homeN n rep = me := by simpa using g2
  have HP : Hid (homeN n rep = me) := g2e
  by_cases g3 : n ∈ KL
  · have hc : rmc me rep per KL n = 101 := by unfold rmc; rw [if_neg g1, if_neg g2, if_pos g3]
    rw [hc, if_neg (by decide)]
    have hk1 : kn = true := by rw [hkn]; simpa using g3
    subst hk1
    clear hc hT hL hnl hrep g1 g2 g2e g3 hkn
    go_enter Try.func54, Try.ntmps54
    go_wp2_with fail
    refine Calls.mono (HG.out _) ?_
    rintro e w' ⟨rfl, hw'⟩
    replace hw' := hw'.symm
    subst hw'
    go_wp2_with fail
    refine Calls.mono HK.out ?_
    rintro e w' ⟨rfl, hw'⟩
    replace hw' := hw'.symm
    subst hw'
    try rw [g1t]
    go_wp2_with fail
    rename_i K hK
    try rw [show ∀ a : Act, a.put none undef = a from fun _ => rfl]
    refine wp_region_mix (fun wq => Below w.heap.size w wq) (fun i => i == 5 || i == 99) 99 (by kernel_rfl) rfl (by kernel_rfl) (by kernel_rfl) (by kernel_rfl) ?_
    refine withFrP (N := 51) rfl ?_
    intro f0 F0 hff
    have e0 : f0 0 = Value.pointer (some ⟨rb, 0, none⟩) := hff 0
    have e1 : f0 1 = Value.string ⟨n.toArray⟩ := hff 1
    clear hff
    have HCC : (fun wq => Below w.heap.size w wq) (({ w with drawn := w.drawn + 1 } : World)) := (Below.drew (Below.refl w.heap.size w))
    have V0 : ∀ wr, Below w.heap.size w wr → wr.cell? ⟨rb, 0, none⟩ = some (.int .i64 me) := fun wr hw => (hw.cell (p := ⟨rb, 0, none⟩) (World.block_lt_of_cell? w _ HT.out.c0)).trans HT.out.c0
    have V1 : ∀ wr, Below w.heap.size w wr → wr.cell? ⟨rb, 1, none⟩ = some (.int .i64 rep) := fun wr hw => (hw.cell (p := ⟨rb, 1, none⟩) (World.block_lt_of_cell? w _ HT.out.c1)).trans HT.out.c1
    refine lyp F0 rfl HCC rfl (by omega) (wanted_none rfl) (v := Value.string ⟨n.toArray⟩) (fun wr hwr => by simp only [execOp, (F0.eval 1 (by omega)).trans (show _ = Value.string ⟨n.toArray⟩ from by simp [upd, e0, e1])]; first | rfl | simp [go_sem]) fun F1 => ?_
    refine lyp F1 rfl HCC rfl (by omega) (wanted_none rfl) (v := Value.pointer (some ⟨rb, 0, none⟩)) (fun wr hwr => by simp only [execOp, (F1.eval 0 (by omega)).trans (show _ = Value.pointer (some ⟨rb, 0, none⟩) from by simp [upd, e0, e1])]; first | rfl | simp [go_sem]) fun F2 => ?_
    refine lyp F2 rfl HCC rfl (by omega) (wanted_none rfl) (v := Value.pointer (some ⟨rb, 0, none⟩)) (fun wr hwr => by simp only [execOp, (F2.eval 17 (by omega)).trans (show _ = Value.pointer (some ⟨rb, 0, none⟩) from by simp [upd, e0, e1])]; simp [go_sem]) fun F3 => ?_
    refine lyp F3 rfl HCC rfl (by omega) (wanted_none rfl) (v := Value.pointer (some ⟨rb, 1, none⟩)) (fun wr hwr => by simp only [execOp, (F3.eval 18 (by omega)).trans (show _ = Value.pointer (some ⟨rb, 0, none⟩) from by simp [upd, e0, e1])]; simp [go_sem]) fun F4 => ?_
    refine lyp F4 rfl HCC rfl (by omega) (wanted_none rfl) (v := Value.int .i64 rep) (fun wr hwr => by simp only [execOp, (F4.eval 19 (by omega)).trans (show _ = Value.pointer (some ⟨rb, 1, none⟩) from by simp [upd, e0, e1])]; simp [go_sem, V1 wr hwr]) fun F5 => ?_
    refine lcp F5 rfl HCC rfl (by omega) (wanted_none rfl) (g := 13) (args := #[Value.string ⟨n.toArray⟩, Value.int .i64 rep]) (by simp only [execOp, resolve, invoke, List.map_toArray, List.map_cons, List.map_nil, (F5.eval 16 (by omega)).trans (show _ = Value.string ⟨n.toArray⟩ from by simp [upd, e0, e1]), (F5.eval 20 (by omega)).trans (show _ = Value.int .i64 rep from by simp [upd, e0, e1])]; simp [go_sem, Act.eval]) (HHO.out (({ w with drawn := w.drawn + 1 } : World))) ?_
    rintro e w2 ⟨rfl, hb2⟩
    refine ⟨_, rfl, fun F6 => ?_⟩
    have HC2 : (fun wq => Below w.heap.size w wq) w2 := (Below.drew (Below.refl w.heap.size w)).trans hb2
    refine lyp F6 rfl HC2 rfl (by omega) (wanted_none rfl) (v := Value.pointer (some ⟨rb, 0, none⟩)) (fun wr hwr => by simp only [execOp, (F6.eval 0 (by omega)).trans (show _ = Value.pointer (some ⟨rb, 0, none⟩) from by simp [upd, e0, e1])]; first | rfl | simp [go_sem]) fun F7 => ?_
    refine lyp F7 rfl HC2 rfl (by omega) (wanted_none rfl) (v := Value.pointer (some ⟨rb, 0, none⟩)) (fun wr hwr => by simp only [execOp, (F7.eval 22 (by omega)).trans (show _ = Value.pointer (some ⟨rb, 0, none⟩) from by simp [upd, e0, e1])]; simp [go_sem]) fun F8 => ?_
    refine lyp F8 rfl HC2 rfl (by omega) (wanted_none rfl) (v := Value.pointer (some ⟨rb, 0, none⟩)) (fun wr hwr => by simp only [execOp, (F8.eval 23 (by omega)).trans (show _ = Value.pointer (some ⟨rb, 0, none⟩) from by simp [upd, e0, e1])]; simp [go_sem]) fun F9 => ?_
    refine lyp F9 rfl HC2 rfl (by omega) (wanted_none rfl) (v := Value.int .i64 me) (fun wr hwr => by simp only [execOp, (F9.eval 24 (by omega)).trans (show _ = Value.pointer (some ⟨rb, 0, none⟩) from by simp [upd, e0, e1])]; simp [go_sem, V0 wr hwr]) fun F10 => ?_
    refine lyp F10 rfl HC2 rfl (by omega) (wanted_none rfl) (v := Value.bool false) (fun wr hwr => by simp only [execOp, (F10.eval 21 (by omega)).trans (show _ = Value.int .i64 (homeN n rep) from by simp [upd, e0, e1]), (F10.eval 25 (by omega)).trans (show _ = Value.int .i64 me from by simp [upd, e0, e1])]; simp [go_sem, Act.eval, HP.out]) fun F11 => ?_
    refine lyp F11 rfl HC2 rfl (by omega) (wanted_none rfl) (v := Value.bool false) (fun wr hwr => by simp only [execOp, (F11.eval 26 (by omega)).trans (show _ = Value.bool false from by simp [upd, e0, e1])]; first | rfl | simp [go_sem]) fun F12 => ?_
    refine ⟨fun _ => HC2, ?_⟩
    refine hK _ _ ?_
    clear F0 F1 F2 F3 F4 F5 F6 F7 F8 F9 F10 F11 F12 e0 e1 HCC V0 V1
    simp only [Act.put, List.setIfInBounds_toArray, List.set_cons_succ, List.set_cons_zero]

    have HB2 : Hid _ := HC2
    clear HC2 hb2
    go_wp2_with fail
    go_ret
    exact ⟨rfl, RPost.same HT.out HB2.out⟩
  have hk1 : kn = false := by rw [hkn]; simpa using g3
  subst hk1
  by_cases g4 : per ≤ (cntK rep me KL : Int)
  · have hc : rmc me rep per KL n = 102 := by unfold rmc; rw [if_neg g1, if_neg g2, if_neg g3, if_pos g4]
    rw [hc, if_neg (by decide)]
    have HQ : Hid (per ≤ (cntK rep me KL : Int)) := g4
    clear hc hT hL hnl hrep g1 g2 g2e g3 g4 hkn
    go_enter Try.func54, Try.ntmps54
    go_wp2_with fail
    refine Calls.mono (HG.out _) ?_
    rintro e w' ⟨rfl, hw'⟩
    replace hw' := hw'.symm
    subst hw'
    go_wp2_with fail
    refine Calls.mono HK.out ?_
    rintro e w' ⟨rfl, hw'⟩
    replace hw' := hw'.symm
    subst hw'
    try rw [g1t]
    go_wp2_with fail
    rename_i K hK
    try rw [show ∀ a : Act, a.put none undef = a from fun _ => rfl]
    refine wp_region_mix (fun wq => Below w.heap.size w wq) (fun i => i == 5 || i == 99) 99 (by kernel_rfl) rfl (by kernel_rfl) (by kernel_rfl) (by kernel_rfl) ?_
    refine withFrP (N := 51) rfl ?_
    intro f0 F0 hff
    have e0 : f0 0 = Value.pointer (some ⟨rb, 0, none⟩) := hff 0
    have e1 : f0 1 = Value.string ⟨n.toArray⟩ := hff 1
    clear hff
    have HCC : (fun wq => Below w.heap.size w wq) (({ w with drawn := w.drawn + 1 } : World)) := (Below.drew (Below.refl w.heap.size w))
    have V0 : ∀ wr, Below w.heap.size w wr → wr.cell? ⟨rb, 0, none⟩ = some (.int .i64 me) := fun wr hw => (hw.cell (p := ⟨rb, 0, none⟩) (World.block_lt_of_cell? w _ HT.out.c0)).trans HT.out.c0
    have V1 : ∀ wr, Below w.heap.size w wr → wr.cell? ⟨rb, 1, none⟩ = some (.int .i64 rep) := fun wr hw => (hw.cell (p := ⟨rb, 1, none⟩) (World.block_lt_of_cell? w _ HT.out.c1)).trans HT.out.c1
    refine lyp F0 rfl HCC rfl (by omega) (wanted_none rfl) (v := Value.string ⟨n.toArray⟩) (fun wr hwr => by simp only [execOp, (F0.eval 1 (by omega)).trans (show _ = Value.string ⟨n.toArray⟩ from by simp [upd, e0, e1])]; first | rfl | simp [go_sem]) fun F1 => ?_
    refine lyp F1 rfl HCC rfl (by omega) (wanted_none rfl) (v := Value.pointer (some ⟨rb, 0, none⟩)) (fun wr hwr => by simp only [execOp, (F1.eval 0 (by omega)).trans (show _ = Value.pointer (some ⟨rb, 0, none⟩) from by simp [upd, e0, e1])]; first | rfl | simp [go_sem]) fun F2 => ?_
    refine lyp F2 rfl HCC rfl (by omega) (wanted_none rfl) (v := Value.pointer (some ⟨rb, 0, none⟩)) (fun wr hwr => by simp only [execOp, (F2.eval 17 (by omega)).trans (show _ = Value.pointer (some ⟨rb, 0, none⟩) from by simp [upd, e0, e1])]; simp [go_sem]) fun F3 => ?_
    refine lyp F3 rfl HCC rfl (by omega) (wanted_none rfl) (v := Value.pointer (some ⟨rb, 1, none⟩)) (fun wr hwr => by simp only [execOp, (F3.eval 18 (by omega)).trans (show _ = Value.pointer (some ⟨rb, 0, none⟩) from by simp [upd, e0, e1])]; simp [go_sem]) fun F4 => ?_
    refine lyp F4 rfl HCC rfl (by omega) (wanted_none rfl) (v := Value.int .i64 rep) (fun wr hwr => by simp only [execOp, (F4.eval 19 (by omega)).trans (show _ = Value.pointer (some ⟨rb, 1, none⟩) from by simp [upd, e0, e1])]; simp [go_sem, V1 wr hwr]) fun F5 => ?_
    refine lcp F5 rfl HCC rfl (by omega) (wanted_none rfl) (g := 13) (args := #[Value.string ⟨n.toArray⟩, Value.int .i64 rep]) (by simp only [execOp, resolve, invoke, List.map_toArray, List.map_cons, List.map_nil, (F5.eval 16 (by omega)).trans (show _ = Value.string ⟨n.toArray⟩ from by simp [upd, e0, e1]), (F5.eval 20 (by omega)).trans (show _ = Value.int .i64 rep from by simp [upd, e0, e1])]; simp [go_sem, Act.eval]) (HHO.out (({ w with drawn := w.drawn + 1 } : World))) ?_
    rintro e w2 ⟨rfl, hb2⟩
    refine ⟨_, rfl, fun F6 => ?_⟩
    have HC2 : (fun wq => Below w.heap.size w wq) w2 := (Below.drew (Below.refl w.heap.size w)).trans hb2
    refine lyp F6 rfl HC2 rfl (by omega) (wanted_none rfl) (v := Value.pointer (some ⟨rb, 0, none⟩)) (fun wr hwr => by simp only [execOp, (F6.eval 0 (by omega)).trans (show _ = Value.pointer (some ⟨rb, 0, none⟩) from by simp [upd, e0, e1])]; first | rfl | simp [go_sem]) fun F7 => ?_
    refine lyp F7 rfl HC2 rfl (by omega) (wanted_none rfl) (v := Value.pointer (some ⟨rb, 0, none⟩)) (fun wr hwr => by simp only [execOp, (F7.eval 22 (by omega)).trans (show _ = Value.pointer (some ⟨rb, 0, none⟩) from by simp [upd, e0, e1])]; simp [go_sem]) fun F8 => ?_
    refine lyp F8 rfl HC2 rfl (by omega) (wanted_none rfl) (v := Value.pointer (some ⟨rb, 0, none⟩)) (fun wr hwr => by simp only [execOp, (F8.eval 23 (by omega)).trans (show _ = Value.pointer (some ⟨rb, 0, none⟩) from by simp [upd, e0, e1])]; simp [go_sem]) fun F9 => ?_
    refine lyp F9 rfl HC2 rfl (by omega) (wanted_none rfl) (v := Value.int .i64 me) (fun wr hwr => by simp only [execOp, (F9.eval 24 (by omega)).trans (show _ = Value.pointer (some ⟨rb, 0, none⟩) from by simp [upd, e0, e1])]; simp [go_sem, V0 wr hwr]) fun F10 => ?_
    refine lyp F10 rfl HC2 rfl (by omega) (wanted_none rfl) (v := Value.bool false) (fun wr hwr => by simp only [execOp, (F10.eval 21 (by omega)).trans (show _ = Value.int .i64 (homeN n rep) from by simp [upd, e0, e1]), (F10.eval 25 (by omega)).trans (show _ = Value.int .i64 me from by simp [upd, e0, e1])]; simp [go_sem, Act.eval, HP.out]) fun F11 => ?_
    refine lyp F11 rfl HC2 rfl (by omega) (wanted_none rfl) (v := Value.bool false) (fun wr hwr => by simp only [execOp, (F11.eval 26 (by omega)).trans (show _ = Value.bool false from by simp [upd, e0, e1])]; first | rfl | simp [go_sem]) fun F12 => ?_
    refine ⟨fun _ => HC2, ?_⟩
    refine hK _ _ ?_
    clear F0 F1 F2 F3 F4 F5 F6 F7 F8 F9 F10 F11 F12 e0 e1 HCC V0 V1
    simp only [Act.put, List.setIfInBounds_toArray, List.set_cons_succ, List.set_cons_zero]

    have HB2 : Hid _ := HC2
    have HT2 : Hid _ := HT.out.more HC2
    clear HC2 hb2
    go_wp2_with fail
    rename_i K hK
    try rw [show ∀ a : Act, a.put none undef = a from fun _ => rfl]
    refine wp_region_mix (fun wq => Below w2.heap.size w2 wq) (fun i => i == 5 || i == 99) 99 (by kernel_rfl) rfl (by kernel_rfl) (by kernel_rfl) (by kernel_rfl) ?_
    refine withFrP (N := 51) rfl ?_
    intro f0 F0 hff
    have f0x : f0 0 = Value.pointer (some ⟨rb, 0, none⟩) := hff 0
    have f1x : f0 1 = Value.string ⟨n.toArray⟩ := hff 1
    clear hff
    have HCC : (fun wq => Below w2.heap.size w2 wq) (({ w2 with drawn := w2.drawn + 1 } : World)) := (Below.drew (Below.refl w2.heap.size w2))
    have V0 : ∀ wr, Below w2.heap.size w2 wr → wr.cell? ⟨rb, 0, none⟩ = some (.int .i64 me) := fun wr hw => (hw.cell (p := ⟨rb, 0, none⟩) (World.block_lt_of_cell? w2 _ HT2.out.c0)).trans HT2.out.c0
    have V2 : ∀ wr, Below w2.heap.size w2 wr → wr.cell? ⟨rb, 2, none⟩ = some (.int .i64 per) := fun wr hw => (hw.cell (p := ⟨rb, 2, none⟩) (World.block_lt_of_cell? w2 _ HT2.out.c2)).trans HT2.out.c2
    refine lyp F0 rfl HCC rfl (by omega) (wanted_none rfl) (v := Value.pointer (some ⟨rb, 0, none⟩)) (fun wr hwr => by simp only [execOp, (F0.eval 0 (by omega)).trans (show _ = Value.pointer (some ⟨rb, 0, none⟩) from by simp [upd, f0x, f1x])]; first | rfl | simp [go_sem]) fun Fy1 => ?_
    refine lyp Fy1 rfl HCC rfl (by omega) (wanted_none rfl) (v := Value.pointer (some ⟨rb, 0, none⟩)) (fun wr hwr => by simp only [execOp, (Fy1.eval 0 (by omega)).trans (show _ = Value.pointer (some ⟨rb, 0, none⟩) from by simp [upd, f0x, f1x])]; first | rfl | simp [go_sem]) fun Fy2 => ?_
    refine lyp Fy2 rfl HCC rfl (by omega) (wanted_none rfl) (v := Value.pointer (some ⟨rb, 0, none⟩)) (fun wr hwr => by simp only [execOp, (Fy2.eval 31 (by omega)).trans (show _ = Value.pointer (some ⟨rb, 0, none⟩) from by simp [upd, f0x, f1x])]; simp [go_sem]) fun Fy3 => ?_
    refine lyp Fy3 rfl HCC rfl (by omega) (wanted_none rfl) (v := Value.pointer (some ⟨rb, 0, none⟩)) (fun wr hwr => by simp only [execOp, (Fy3.eval 32 (by omega)).trans (show _ = Value.pointer (some ⟨rb, 0, none⟩) from by simp [upd, f0x, f1x])]; simp [go_sem]) fun Fy4 => ?_
    refine lyp Fy4 rfl HCC rfl (by omega) (wanted_none rfl) (v := Value.int .i64 me) (fun wr hwr => by simp only [execOp, (Fy4.eval 33 (by omega)).trans (show _ = Value.pointer (some ⟨rb, 0, none⟩) from by simp [upd, f0x, f1x])]; simp [go_sem, V0 wr hwr]) fun Fy5 => ?_
    refine lcp Fy5 rfl HCC rfl (by omega) (wanted_none rfl) (g := 66) (args := #[Value.pointer (some ⟨rb, 0, none⟩), Value.int .i64 me]) (by simp only [execOp, resolve, invoke, List.map_toArray, List.map_cons, List.map_nil, (Fy5.eval 30 (by omega)).trans (show _ = Value.pointer (some ⟨rb, 0, none⟩) from by simp [upd, f0x, f1x]), (Fy5.eval 34 (by omega)).trans (show _ = Value.int .i64 me from by simp [upd, f0x, f1x])]; simp [go_sem, Act.eval]) (HOF.out (({ w2 with drawn := w2.drawn + 1 } : World)) (HT2.out.more HCC)) ?_
    rintro e w3 ⟨rfl, hb3⟩
    refine ⟨_, rfl, fun Fy6 => ?_⟩
    have HC3 : (fun wq => Below w2.heap.size w2 wq) w3 := (Below.drew (Below.refl w2.heap.size w2)).trans hb3
    refine lyp Fy6 rfl HC3 rfl (by omega) (wanted_none rfl) (v := Value.pointer (some ⟨rb, 0, none⟩)) (fun wr hwr => by simp only [execOp, (Fy6.eval 0 (by omega)).trans (show _ = Value.pointer (some ⟨rb, 0, none⟩) from by simp [upd, f0x, f1x])]; first | rfl | simp [go_sem]) fun Fy7 => ?_
    refine lyp Fy7 rfl HC3 rfl (by omega) (wanted_none rfl) (v := Value.pointer (some ⟨rb, 0, none⟩)) (fun wr hwr => by simp only [execOp, (Fy7.eval 36 (by omega)).trans (show _ = Value.pointer (some ⟨rb, 0, none⟩) from by simp [upd, f0x, f1x])]; simp [go_sem]) fun Fy8 => ?_
    refine lyp Fy8 rfl HC3 rfl (by omega) (wanted_none rfl) (v := Value.pointer (some ⟨rb, 2, none⟩)) (fun wr hwr => by simp only [execOp, (Fy8.eval 37 (by omega)).trans (show _ = Value.pointer (some ⟨rb, 0, none⟩) from by simp [upd, f0x, f1x])]; simp [go_sem]) fun Fy9 => ?_
    refine lyp Fy9 rfl HC3 rfl (by omega) (wanted_none rfl) (v := Value.int .i64 per) (fun wr hwr => by simp only [execOp, (Fy9.eval 38 (by omega)).trans (show _ = Value.pointer (some ⟨rb, 2, none⟩) from by simp [upd, f0x, f1x])]; simp [go_sem, V2 wr hwr]) fun Fy10 => ?_
    refine lyp Fy10 rfl HC3 rfl (by omega) (wanted_none rfl) (v := Value.bool true) (fun wr hwr => by simp only [execOp, (Fy10.eval 35 (by omega)).trans (show _ = Value.int .i64 (cntK rep me KL : Nat) from by simp [upd, f0x, f1x]), (Fy10.eval 39 (by omega)).trans (show _ = Value.int .i64 per from by simp [upd, f0x, f1x])]; simp [go_sem, Act.eval, HQ.out]) fun Fy11 => ?_
    refine lyp Fy11 rfl HC3 rfl (by omega) (wanted_none rfl) (v := Value.bool true) (fun wr hwr => by simp only [execOp, (Fy11.eval 40 (by omega)).trans (show _ = Value.bool true from by simp [upd, f0x, f1x])]; first | rfl | simp [go_sem]) fun Fy12 => ?_
    refine ⟨fun _ => HC3, ?_⟩
    refine hK _ _ ?_
    clear F0 Fy1 Fy2 Fy3 Fy4 Fy5 Fy6 Fy7 Fy8 Fy9 Fy10 Fy11 Fy12 f0x f1x HCC V0 V2
    simp only [Act.put, List.setIfInBounds_toArray, List.set_cons_succ, List.set_cons_zero]

    have HB3 : Hid (Below w.heap.size w w3) := HB2.out.trans (HC3.mono HB2.out.size)
    clear HC3 hb3
    go_wp2_with fail
    go_ret
    exact ⟨rfl, RPost.same HT.out HB3.out⟩
  · have hc : rmc me rep per KL n = 0 := by unfold rmc; rw [if_neg g1, if_neg g2, if_neg g3, if_neg g4]
    rw [hc, if_pos rfl]
    have HQ : Hid (¬ per ≤ (cntK rep me KL : Int)) := g4
    have HKL : Hid (KL.length ≤ 100000) := hL
    clear hc hT hL hnl hrep g1 g2 g2e g3 g4 hkn
    go_enter Try.func54, Try.ntmps54
    go_wp2_with fail
    refine Calls.mono (HG.out _) ?_
    rintro e w' ⟨rfl, hw'⟩
    replace hw' := hw'.symm
    subst hw'
    go_wp2_with fail
    refine Calls.mono HK.out ?_
    rintro e w' ⟨rfl, hw'⟩
    replace hw' := hw'.symm
    subst hw'
    try rw [g1t]
    go_wp2_with fail
    rename_i K hK
    try rw [show ∀ a : Act, a.put none undef = a from fun _ => rfl]
    refine wp_region_mix (fun wq => Below w.heap.size w wq) (fun i => i == 5 || i == 99) 99 (by kernel_rfl) rfl (by kernel_rfl) (by kernel_rfl) (by kernel_rfl) ?_
    refine withFrP (N := 51) rfl ?_
    intro f0 F0 hff
    have e0 : f0 0 = Value.pointer (some ⟨rb, 0, none⟩) := hff 0
    have e1 : f0 1 = Value.string ⟨n.toArray⟩ := hff 1
    clear hff
    have HCC : (fun wq => Below w.heap.size w wq) (({ w with drawn := w.drawn + 1 } : World)) := (Below.drew (Below.refl w.heap.size w))
    have V0 : ∀ wr, Below w.heap.size w wr → wr.cell? ⟨rb, 0, none⟩ = some (.int .i64 me) := fun wr hw => (hw.cell (p := ⟨rb, 0, none⟩) (World.block_lt_of_cell? w _ HT.out.c0)).trans HT.out.c0
    have V1 : ∀ wr, Below w.heap.size w wr → wr.cell? ⟨rb, 1, none⟩ = some (.int .i64 rep) := fun wr hw => (hw.cell (p := ⟨rb, 1, none⟩) (World.block_lt_of_cell? w _ HT.out.c1)).trans HT.out.c1
    refine lyp F0 rfl HCC rfl (by omega) (wanted_none rfl) (v := Value.string ⟨n.toArray⟩) (fun wr hwr => by simp only [execOp, (F0.eval 1 (by omega)).trans (show _ = Value.string ⟨n.toArray⟩ from by simp [upd, e0, e1])]; first | rfl | simp [go_sem]) fun F1 => ?_
    refine lyp F1 rfl HCC rfl (by omega) (wanted_none rfl) (v := Value.pointer (some ⟨rb, 0, none⟩)) (fun wr hwr => by simp only [execOp, (F1.eval 0 (by omega)).trans (show _ = Value.pointer (some ⟨rb, 0, none⟩) from by simp [upd, e0, e1])]; first | rfl | simp [go_sem]) fun F2 => ?_
    refine lyp F2 rfl HCC rfl (by omega) (wanted_none rfl) (v := Value.pointer (some ⟨rb, 0, none⟩)) (fun wr hwr => by simp only [execOp, (F2.eval 17 (by omega)).trans (show _ = Value.pointer (some ⟨rb, 0, none⟩) from by simp [upd, e0, e1])]; simp [go_sem]) fun F3 => ?_
    refine lyp F3 rfl HCC rfl (by omega) (wanted_none rfl) (v := Value.pointer (some ⟨rb, 1, none⟩)) (fun wr hwr => by simp only [execOp, (F3.eval 18 (by omega)).trans (show _ = Value.pointer (some ⟨rb, 0, none⟩) from by simp [upd, e0, e1])]; simp [go_sem]) fun F4 => ?_
    refine lyp F4 rfl HCC rfl (by omega) (wanted_none rfl) (v := Value.int .i64 rep) (fun wr hwr => by simp only [execOp, (F4.eval 19 (by omega)).trans (show _ = Value.pointer (some ⟨rb, 1, none⟩) from by simp [upd, e0, e1])]; simp [go_sem, V1 wr hwr]) fun F5 => ?_
    refine lcp F5 rfl HCC rfl (by omega) (wanted_none rfl) (g := 13) (args := #[Value.string ⟨n.toArray⟩, Value.int .i64 rep]) (by simp only [execOp, resolve, invoke, List.map_toArray, List.map_cons, List.map_nil, (F5.eval 16 (by omega)).trans (show _ = Value.string ⟨n.toArray⟩ from by simp [upd, e0, e1]), (F5.eval 20 (by omega)).trans (show _ = Value.int .i64 rep from by simp [upd, e0, e1])]; simp [go_sem, Act.eval]) (HHO.out (({ w with drawn := w.drawn + 1 } : World))) ?_
    rintro e w2 ⟨rfl, hb2⟩
    refine ⟨_, rfl, fun F6 => ?_⟩
    have HC2 : (fun wq => Below w.heap.size w wq) w2 := (Below.drew (Below.refl w.heap.size w)).trans hb2
    refine lyp F6 rfl HC2 rfl (by omega) (wanted_none rfl) (v := Value.pointer (some ⟨rb, 0, none⟩)) (fun wr hwr => by simp only [execOp, (F6.eval 0 (by omega)).trans (show _ = Value.pointer (some ⟨rb, 0, none⟩) from by simp [upd, e0, e1])]; first | rfl | simp [go_sem]) fun F7 => ?_
    refine lyp F7 rfl HC2 rfl (by omega) (wanted_none rfl) (v := Value.pointer (some ⟨rb, 0, none⟩)) (fun wr hwr => by simp only [execOp, (F7.eval 22 (by omega)).trans (show _ = Value.pointer (some ⟨rb, 0, none⟩) from by simp [upd, e0, e1])]; simp [go_sem]) fun F8 => ?_
    refine lyp F8 rfl HC2 rfl (by omega) (wanted_none rfl) (v := Value.pointer (some ⟨rb, 0, none⟩)) (fun wr hwr => by simp only [execOp, (F8.eval 23 (by omega)).trans (show _ = Value.pointer (some ⟨rb, 0, none⟩) from by simp [upd, e0, e1])]; simp [go_sem]) fun F9 => ?_
    refine lyp F9 rfl HC2 rfl (by omega) (wanted_none rfl) (v := Value.int .i64 me) (fun wr hwr => by simp only [execOp, (F9.eval 24 (by omega)).trans (show _ = Value.pointer (some ⟨rb, 0, none⟩) from by simp [upd, e0, e1])]; simp [go_sem, V0 wr hwr]) fun F10 => ?_
    refine lyp F10 rfl HC2 rfl (by omega) (wanted_none rfl) (v := Value.bool false) (fun wr hwr => by simp only [execOp, (F10.eval 21 (by omega)).trans (show _ = Value.int .i64 (homeN n rep) from by simp [upd, e0, e1]), (F10.eval 25 (by omega)).trans (show _ = Value.int .i64 me from by simp [upd, e0, e1])]; simp [go_sem, Act.eval, HP.out]) fun F11 => ?_
    refine lyp F11 rfl HC2 rfl (by omega) (wanted_none rfl) (v := Value.bool false) (fun wr hwr => by simp only [execOp, (F11.eval 26 (by omega)).trans (show _ = Value.bool false from by simp [upd, e0, e1])]; first | rfl | simp [go_sem]) fun F12 => ?_
    refine ⟨fun _ => HC2, ?_⟩
    refine hK _ _ ?_
    clear F0 F1 F2 F3 F4 F5 F6 F7 F8 F9 F10 F11 F12 e0 e1 HCC V0 V1
    simp only [Act.put, List.setIfInBounds_toArray, List.set_cons_succ, List.set_cons_zero]

    have HB2 : Hid _ := HC2
    have HT2 : Hid _ := HT.out.more HC2
    clear HC2 hb2
    go_wp2_with fail
    rename_i K hK
    try rw [show ∀ a : Act, a.put none undef = a from fun _ => rfl]
    refine wp_region_mix (fun wq => Below w2.heap.size w2 wq) (fun i => i == 5 || i == 99) 99 (by kernel_rfl) rfl (by kernel_rfl) (by kernel_rfl) (by kernel_rfl) ?_
    refine withFrP (N := 51) rfl ?_
    intro f0 F0 hff
    have f0x : f0 0 = Value.pointer (some ⟨rb, 0, none⟩) := hff 0
    have f1x : f0 1 = Value.string ⟨n.toArray⟩ := hff 1
    clear hff
    have HCC : (fun wq => Below w2.heap.size w2 wq) (({ w2 with drawn := w2.drawn + 1 } : World)) := (Below.drew (Below.refl w2.heap.size w2))
    have V0 : ∀ wr, Below w2.heap.size w2 wr → wr.cell? ⟨rb, 0, none⟩ = some (.int .i64 me) := fun wr hw => (hw.cell (p := ⟨rb, 0, none⟩) (World.block_lt_of_cell? w2 _ HT2.out.c0)).trans HT2.out.c0
    have V2 : ∀ wr, Below w2.heap.size w2 wr → wr.cell? ⟨rb, 2, none⟩ = some (.int .i64 per) := fun wr hw => (hw.cell (p := ⟨rb, 2, none⟩) (World.block_lt_of_cell? w2 _ HT2.out.c2)).trans HT2.out.c2
    refine lyp F0 rfl HCC rfl (by omega) (wanted_none rfl) (v := Value.pointer (some ⟨rb, 0, none⟩)) (fun wr hwr => by simp only [execOp, (F0.eval 0 (by omega)).trans (show _ = Value.pointer (some ⟨rb, 0, none⟩) from by simp [upd, f0x, f1x])]; first | rfl | simp [go_sem]) fun Fy1 => ?_
    refine lyp Fy1 rfl HCC rfl (by omega) (wanted_none rfl) (v := Value.pointer (some ⟨rb, 0, none⟩)) (fun wr hwr => by simp only [execOp, (Fy1.eval 0 (by omega)).trans (show _ = Value.pointer (some ⟨rb, 0, none⟩) from by simp [upd, f0x, f1x])]; first | rfl | simp [go_sem]) fun Fy2 => ?_
    refine lyp Fy2 rfl HCC rfl (by omega) (wanted_none rfl) (v := Value.pointer (some ⟨rb, 0, none⟩)) (fun wr hwr => by simp only [execOp, (Fy2.eval 31 (by omega)).trans (show _ = Value.pointer (some ⟨rb, 0, none⟩) from by simp [upd, f0x, f1x])]; simp [go_sem]) fun Fy3 => ?_
    refine lyp Fy3 rfl HCC rfl (by omega) (wanted_none rfl) (v := Value.pointer (some ⟨rb, 0, none⟩)) (fun wr hwr => by simp only [execOp, (Fy3.eval 32 (by omega)).trans (show _ = Value.pointer (some ⟨rb, 0, none⟩) from by simp [upd, f0x, f1x])]; simp [go_sem]) fun Fy4 => ?_
    refine lyp Fy4 rfl HCC rfl (by omega) (wanted_none rfl) (v := Value.int .i64 me) (fun wr hwr => by simp only [execOp, (Fy4.eval 33 (by omega)).trans (show _ = Value.pointer (some ⟨rb, 0, none⟩) from by simp [upd, f0x, f1x])]; simp [go_sem, V0 wr hwr]) fun Fy5 => ?_
    refine lcp Fy5 rfl HCC rfl (by omega) (wanted_none rfl) (g := 66) (args := #[Value.pointer (some ⟨rb, 0, none⟩), Value.int .i64 me]) (by simp only [execOp, resolve, invoke, List.map_toArray, List.map_cons, List.map_nil, (Fy5.eval 30 (by omega)).trans (show _ = Value.pointer (some ⟨rb, 0, none⟩) from by simp [upd, f0x, f1x]), (Fy5.eval 34 (by omega)).trans (show _ = Value.int .i64 me from by simp [upd, f0x, f1x])]; simp [go_sem, Act.eval]) (HOF.out (({ w2 with drawn := w2.drawn + 1 } : World)) (HT2.out.more HCC)) ?_
    rintro e w3 ⟨rfl, hb3⟩
    refine ⟨_, rfl, fun Fy6 => ?_⟩
    have HC3 : (fun wq => Below w2.heap.size w2 wq) w3 := (Below.drew (Below.refl w2.heap.size w2)).trans hb3
    refine lyp Fy6 rfl HC3 rfl (by omega) (wanted_none rfl) (v := Value.pointer (some ⟨rb, 0, none⟩)) (fun wr hwr => by simp only [execOp, (Fy6.eval 0 (by omega)).trans (show _ = Value.pointer (some ⟨rb, 0, none⟩) from by simp [upd, f0x, f1x])]; first | rfl | simp [go_sem]) fun Fy7 => ?_
    refine lyp Fy7 rfl HC3 rfl (by omega) (wanted_none rfl) (v := Value.pointer (some ⟨rb, 0, none⟩)) (fun wr hwr => by simp only [execOp, (Fy7.eval 36 (by omega)).trans (show _ = Value.pointer (some ⟨rb, 0, none⟩) from by simp [upd, f0x, f1x])]; simp [go_sem]) fun Fy8 => ?_
    refine lyp Fy8 rfl HC3 rfl (by omega) (wanted_none rfl) (v := Value.pointer (some ⟨rb, 2, none⟩)) (fun wr hwr => by simp only [execOp, (Fy8.eval 37 (by omega)).trans (show _ = Value.pointer (some ⟨rb, 0, none⟩) from by simp [upd, f0x, f1x])]; simp [go_sem]) fun Fy9 => ?_
    refine lyp Fy9 rfl HC3 rfl (by omega) (wanted_none rfl) (v := Value.int .i64 per) (fun wr hwr => by simp only [execOp, (Fy9.eval 38 (by omega)).trans (show _ = Value.pointer (some ⟨rb, 2, none⟩) from by simp [upd, f0x, f1x])]; simp [go_sem, V2 wr hwr]) fun Fy10 => ?_
    refine lyp Fy10 rfl HC3 rfl (by omega) (wanted_none rfl) (v := Value.bool false) (fun wr hwr => by simp only [execOp, (Fy10.eval 35 (by omega)).trans (show _ = Value.int .i64 (cntK rep me KL : Nat) from by simp [upd, f0x, f1x]), (Fy10.eval 39 (by omega)).trans (show _ = Value.int .i64 per from by simp [upd, f0x, f1x])]; simp [go_sem, Act.eval, HQ.out]) fun Fy11 => ?_
    refine lyp Fy11 rfl HC3 rfl (by omega) (wanted_none rfl) (v := Value.bool false) (fun wr hwr => by simp only [execOp, (Fy11.eval 40 (by omega)).trans (show _ = Value.bool false from by simp [upd, f0x, f1x])]; first | rfl | simp [go_sem]) fun Fy12 => ?_
    refine ⟨fun _ => HC3, ?_⟩
    refine hK _ _ ?_
    clear F0 Fy1 Fy2 Fy3 Fy4 Fy5 Fy6 Fy7 Fy8 Fy9 Fy10 Fy11 Fy12 f0x f1x HCC V0 V2
    simp only [Act.put, List.setIfInBounds_toArray, List.set_cons_succ, List.set_cons_zero]

    have HB3 : Hid (Below w.heap.size w w3) := HB2.out.trans (HC3.mono HB2.out.size)
    have hT3 := HT2.out.more HC3
    have c3 := hT3.c3
    obtain ⟨ao, cap, hv, _⟩ := own_slice hT3.kr
    rw [hv] at c3
    have HRO : Hid (World.ownsRow w3 B 9 1 (.slice ao KL.length cap) KL.length (flatS KL)) := show World.ownsRow w3 B 9 1 (.slice ao KL.length cap) KL.length (flatS KL) from by rw [← hv]; exact hT3.kr
    have HSZ : Hid (B ≤ w3.heap.size) := hT3.low
    have HT3 : Hid _ := hT3
    have HV : Hid (kl = .slice ao KL.length cap) := hv
    clear HC3 hb3 hT3 hv
    go_wp2_with (first | (at_builtin; go_must (refine wpList_appS rfl _ _ rfl B KL.length _ KL rfl HRO.out n rfl (by first | rfl | simp) HKL.out HSZ.out ?_)))
    intro v' w5 ho5 hg5
    obtain ⟨ao5, cap5, hv5, _⟩ := own_slice ho5
    subst hv5
    have hB5 := hg5.chg.blk HT3.out.blk (by rw [← HV.out]; exact HT3.out.knb HT3.out.blk (by decide))
    have hfz := hB5.frozen 3
    have hcz : w5.cell? ⟨rb, 3, none⟩ = some kl := hB5.cell 3
    have HPO : Hid (RPost B rb kl wl me rep per (KL ++ [n]) WL w (w5.setCell ⟨rb, 3, none⟩ (.slice ao5 (KL.length + 1) cap5))) := RPost.ofK (KL' := KL ++ [n]) HT.out HB3.out (by rw [HV.out]; exact hg5) (by rw [List.length_append]; exact ho5)
    rw [HV.out] at hcz
    clear ho5 hg5 hB5 c3
    go_wp2_with fail
    go_ret
    exact ⟨rfl, HPO.out⟩
end Go.Proofs.Ytbjlaloofpdbfaa
namespace Go.Proofs.Ytbjlaloofpdbfaa
open Go.RowKit Go.PlainAid
set_option linter.unusedVariables false
set_option linter.unusedSimpArgs false
set_option maxRecDepth 100000 in
set_option maxHeartbeats 1600000 in
theorem rlearn_any {B rb : Nat} {kl wl : Value} {me rep per : Int} {KL : List (List UInt8)} {WL : List ((Int × Int) × OpA)} (n : List UInt8) (w : World) (hT : RT B rb kl wl me rep per KL WL w) (hL : KL.length ≤ 100000) (hnl : ∀ x ∈ KL, x.length ≤ 140737488355328) (hl : n.length ≤ 140737488355328) (hrep : -9223372036854775808 ≤ rep ∧ rep ≤ 9223372036854775807) :
    Calls Try.prog 55 #[.pointer (some ⟨rb, 0, none⟩), .string ⟨n.toArray⟩] w fun q w' => q = .returned (.bool (rlb me rep per KL n)) ∧ RPost B rb kl wl me rep per (rln me rep per KL n) WL w w' := by
  have HG : Hid (∀ w, _) := fun w => rgood_any n w (by omega)
  have HHO : Hid (∀ w, _) := fun w => rhome_any n rep w (by omega) hrep
  have HK : Hid _ := rknows_any n w hT hL
  have HOF : Hid (∀ w' : World, RT B rb kl wl me rep per KL WL w' → _) := fun w' h => of_any (homeN n rep) w' h hL hnl hrep
  have HT : Hid _ := hT
  have c1 := hT.c1
  unfold rln
  obtain ⟨kn, hkn⟩ : ∃ kn, kn = decide (n ∈ KL) := ⟨_, rfl⟩
  rw [← hkn] at HK
  by_cases g1 : nameB n = false
  · have hc : rlb me rep per KL n = false := by unfold rlb; rw [g1]; rfl
    rw [hc, if_neg (by decide)]
    clear hc hT hL hnl hrep hkn
    go_enter Try.func55, Try.ntmps55
    go_wp2_with fail
    refine Calls.mono (HG.out _) ?_
    rintro e w' ⟨rfl, hw'⟩
    replace hw' := hw'.symm
    subst hw'
    go_wp2_with fail
    refine Calls.mono HK.out ?_
    rintro e w' ⟨rfl, hw'⟩
    replace hw' := hw'.symm
    subst hw'
    go_wp2_with fail
    refine Calls.mono (HHO.out _) ?_
    rintro e w2 ⟨rfl, hb2⟩
    have HT2 : Hid _ := HT.out.more hb2
    have HB2 : Hid _ := hb2
    clear hb2 c1
    try rw [g1]
    go_wp2_with fail
    rename_i K hK
    try rw [show ∀ a : Act, a.put none undef = a from fun _ => rfl]
    refine wp_region_mix (fun wq => Below w2.heap.size w2 wq) (fun i => i == 99) 99 (by kernel_rfl) rfl (by kernel_rfl) (by kernel_rfl) (by kernel_rfl) ?_
    refine withFrP (N := 52) rfl ?_
    intro f0 F0 hff
    have e0 : f0 0 = Value.pointer (some ⟨rb, 0, none⟩) := hff 0
    have e1 : f0 1 = Value.string ⟨n.toArray⟩ := hff 1
    have e5 : f0 5 = Value.bool false := hff 5
    have e6 : f0 6 = Value.bool kn := hff 6
    have e7 : f0 7 = Value.int .i64 (homeN n rep) := hff 7
    clear hff
    have HCC : (fun wq => Below w2.heap.size w2 wq) (({ w2 with drawn := w2.drawn + 1 } : World)) := (Below.drew (Below.refl w2.heap.size w2))
    have V0 : ∀ wr, Below w2.heap.size w2 wr → wr.cell? ⟨rb, 0, none⟩ = some (.int .i64 me) := fun wr hw => (hw.cell (p := ⟨rb, 0, none⟩) (World.block_lt_of_cell? w2 _ HT2.out.c0)).trans HT2.out.c0
    have V2 : ∀ wr, Below w2.heap.size w2 wr → wr.cell? ⟨rb, 2, none⟩ = some (.int .i64 per) := fun wr hw => (hw.cell (p := ⟨rb, 2, none⟩) (World.block_lt_of_cell? w2 _ HT2.out.c2)).trans HT2.out.c2
    refine lyp F0 rfl HCC rfl (by omega) (wanted_none rfl) (v := Value.bool false) (fun wr hwr => by simp only [execOp, (F0.eval 5 (by omega)).trans (show _ = Value.bool false from by simp [upd, e0, e1, e5, e6, e7])]; first | rfl | simp [go_sem]) fun F1 => ?_
    refine lyp F1 rfl HCC rfl (by omega) (wanted_none rfl) (v := Value.bool true) (fun wr hwr => by simp only [execOp, (F1.eval 19 (by omega)).trans (show _ = Value.bool false from by simp [upd, e0, e1, e5, e6, e7])]; simp [go_sem, Act.eval]) fun F2 => ?_
    refine lyp F2 rfl HCC rfl (by omega) (wanted_none rfl) (v := Value.bool true) (fun wr hwr => by simp only [execOp, (F2.eval 20 (by omega)).trans (show _ = Value.bool true from by simp [upd, e0, e1, e5, e6, e7])]; first | rfl | simp [go_sem]) fun F3 => ?_
    refine lnp F3 rfl HCC rfl (by omega) (want_no F3 rfl (e := 21) rfl (by omega) (show _ = Value.bool true from by simp [upd, e0, e1, e5, e6, e7]) (by decide)) fun F4 => ?_
    refine lyp F4 rfl HCC rfl (by omega) (wanted_none rfl) (v := Value.bool true) (fun wr hwr => by simp only [execOp, (F4.eval 21 (by omega)).trans (show _ = Value.bool true from by simp [upd, e0, e1, e5, e6, e7])]; simp [go_sem, Act.eval]) fun F5 => ?_
    refine lyp F5 rfl HCC rfl (by omega) (wanted_none rfl) (v := Value.bool true) (fun wr hwr => by simp only [execOp, (F5.eval 23 (by omega)).trans (show _ = Value.bool true from by simp [upd, e0, e1, e5, e6, e7])]; first | rfl | simp [go_sem]) fun F6 => ?_
    refine lnp F6 rfl HCC rfl (by omega) (want_no F6 rfl (e := 24) rfl (by omega) (show _ = Value.bool true from by simp [upd, e0, e1, e5, e6, e7]) (by decide)) fun F7 => ?_
    refine lnp F7 rfl HCC rfl (by omega) (want_no F7 rfl (e := 24) rfl (by omega) (show _ = Value.bool true from by simp [upd, e0, e1, e5, e6, e7]) (by decide)) fun F8 => ?_
    refine lnp F8 rfl HCC rfl (by omega) (want_no F8 rfl (e := 24) rfl (by omega) (show _ = Value.bool true from by simp [upd, e0, e1, e5, e6, e7]) (by decide)) fun F9 => ?_
    refine lnp F9 rfl HCC rfl (by omega) (want_no F9 rfl (e := 24) rfl (by omega) (show _ = Value.bool true from by simp [upd, e0, e1, e5, e6, e7]) (by decide)) fun F10 => ?_
    refine lnp F10 rfl HCC rfl (by omega) (want_no F10 rfl (e := 24) rfl (by omega) (show _ = Value.bool true from by simp [upd, e0, e1, e5, e6, e7]) (by decide)) fun F11 => ?_
    refine lnp F11 rfl HCC rfl (by omega) (want_no F11 rfl (e := 24) rfl (by omega) (show _ = Value.bool true from by simp [upd, e0, e1, e5, e6, e7]) (by decide)) fun F12 => ?_
    refine lyp F12 rfl HCC rfl (by omega) (wanted_none rfl) (v := Value.bool true) (fun wr hwr => by simp only [execOp, (F12.eval 24 (by omega)).trans (show _ = Value.bool true from by simp [upd, e0, e1, e5, e6, e7])]; simp [go_sem, Act.eval]) fun F13 => ?_
    refine lyp F13 rfl HCC rfl (by omega) (wanted_none rfl) (v := Value.bool true) (fun wr hwr => by simp only [execOp, (F13.eval 31 (by omega)).trans (show _ = Value.bool true from by simp [upd, e0, e1, e5, e6, e7])]; first | rfl | simp [go_sem]) fun F14 => ?_
    refine lnp F14 rfl HCC rfl (by omega) (want_no F14 rfl (e := 32) rfl (by omega) (show _ = Value.bool true from by simp [upd, e0, e1, e5, e6, e7]) (by decide)) fun F15 => ?_
    refine lnp F15 rfl HCC rfl (by omega) (want_no F15 rfl (e := 32) rfl (by omega) (show _ = Value.bool true from by simp [upd, e0, e1, e5, e6, e7]) (by decide)) fun F16 => ?_
    refine lnp F16 rfl HCC rfl (by omega) (want_no F16 rfl (e := 32) rfl (by omega) (show _ = Value.bool true from by simp [upd, e0, e1, e5, e6, e7]) (by decide)) fun F17 => ?_
    refine lnp F17 rfl HCC rfl (by omega) (want_no F17 rfl (e := 32) rfl (by omega) (show _ = Value.bool true from by simp [upd, e0, e1, e5, e6, e7]) (by decide)) fun F18 => ?_
    refine lnp F18 rfl HCC rfl (by omega) (want_no F18 rfl (e := 32) rfl (by omega) (show _ = Value.bool true from by simp [upd, e0, e1, e5, e6, e7]) (by decide)) fun F19 => ?_
    refine lnp F19 rfl HCC rfl (by omega) (want_no F19 rfl (e := 32) rfl (by omega) (show _ = Value.bool true from by simp [upd, e0, e1, e5, e6, e7]) (by decide)) fun F20 => ?_
    refine lnp F20 rfl HCC rfl (by omega) (want_no F20 rfl (e := 32) rfl (by omega) (show _ = Value.bool true from by simp [upd, e0, e1, e5, e6, e7]) (by decide)) fun F21 => ?_
    refine lnp F21 rfl HCC rfl (by omega) (want_no F21 rfl (e := 32) rfl (by omega) (show _ = Value.bool true from by simp [upd, e0, e1, e5, e6, e7]) (by decide)) fun F22 => ?_
    refine lyp F22 rfl HCC rfl (by omega) (wanted_none rfl) (v := Value.bool true) (fun wr hwr => by simp only [execOp, (F22.eval 32 (by omega)).trans (show _ = Value.bool true from by simp [upd, e0, e1, e5, e6, e7])]; simp [go_sem, Act.eval]) fun F23 => ?_
    refine ⟨fun _ => HCC, ?_⟩
    refine hK _ _ ?_
    clear F0 F1 F2 F3 F4 F5 F6 F7 F8 F9 F10 F11 F12 F13 F14 F15 F16 F17 F18 F19 F20 F21 F22 F23 e0 e1 e5 e6 e7 V0 V2
    simp only [Act.put, List.setIfInBounds_toArray, List.set_cons_succ, List.set_cons_zero]

    have HB3 : Hid (Below w.heap.size w ({ w2 with drawn := w2.drawn + 1 } : World)) := HB2.out.trans (HCC.mono HB2.out.size)
    clear HCC
    go_wp2_with fail
    go_ret
    exact ⟨rfl, RPost.same HT.out HB3.out⟩
  have g1t : nameB n = true := by simpa using g1
  by_cases g3 : n ∈ KL
  · have hc : rlb me rep per KL n = false := by unfold rlb; simp [g3]
    rw [hc, if_neg (by decide)]
    have hk1 : kn = true := by rw [hkn]; simpa using g3
    subst hk1
    clear hc hT hL hnl hrep g1 g3 hkn
    go_enter Try.func55, Try.ntmps55
    go_wp2_with fail
    refine Calls.mono (HG.out _) ?_
    rintro e w' ⟨rfl, hw'⟩
    replace hw' := hw'.symm
    subst hw'
    go_wp2_with fail
    refine Calls.mono HK.out ?_
    rintro e w' ⟨rfl, hw'⟩
    replace hw' := hw'.symm
    subst hw'
    go_wp2_with fail
    refine Calls.mono (HHO.out _) ?_
    rintro e w2 ⟨rfl, hb2⟩
    have HT2 : Hid _ := HT.out.more hb2
    have HB2 : Hid _ := hb2
    clear hb2 c1
    try rw [g1t]
    go_wp2_with fail
    rename_i K hK
    try rw [show ∀ a : Act, a.put none undef = a from fun _ => rfl]
    refine wp_region_mix (fun wq => Below w2.heap.size w2 wq) (fun i => i == 99) 99 (by kernel_rfl) rfl (by kernel_rfl) (by kernel_rfl) (by kernel_rfl) ?_
    refine withFrP (N := 52) rfl ?_
    intro f0 F0 hff
    have e0 : f0 0 = Value.pointer (some ⟨rb, 0, none⟩) := hff 0
    have e1 : f0 1 = Value.string ⟨n.toArray⟩ := hff 1
    have e5 : f0 5 = Value.bool true := hff 5
    have e6 : f0 6 = Value.bool true := hff 6
    have e7 : f0 7 = Value.int .i64 (homeN n rep) := hff 7
    clear hff
    have HCC : (fun wq => Below w2.heap.size w2 wq) (({ w2 with drawn := w2.drawn + 1 } : World)) := (Below.drew (Below.refl w2.heap.size w2))
    have V0 : ∀ wr, Below w2.heap.size w2 wr → wr.cell? ⟨rb, 0, none⟩ = some (.int .i64 me) := fun wr hw => (hw.cell (p := ⟨rb, 0, none⟩) (World.block_lt_of_cell? w2 _ HT2.out.c0)).trans HT2.out.c0
    have V2 : ∀ wr, Below w2.heap.size w2 wr → wr.cell? ⟨rb, 2, none⟩ = some (.int .i64 per) := fun wr hw => (hw.cell (p := ⟨rb, 2, none⟩) (World.block_lt_of_cell? w2 _ HT2.out.c2)).trans HT2.out.c2
    refine lyp F0 rfl HCC rfl (by omega) (wanted_none rfl) (v := Value.bool true) (fun wr hwr => by simp only [execOp, (F0.eval 5 (by omega)).trans (show _ = Value.bool true from by simp [upd, e0, e1, e5, e6, e7])]; first | rfl | simp [go_sem]) fun F1 => ?_
    refine lyp F1 rfl HCC rfl (by omega) (wanted_none rfl) (v := Value.bool false) (fun wr hwr => by simp only [execOp, (F1.eval 19 (by omega)).trans (show _ = Value.bool true from by simp [upd, e0, e1, e5, e6, e7])]; simp [go_sem, Act.eval]) fun F2 => ?_
    refine lyp F2 rfl HCC rfl (by omega) (wanted_none rfl) (v := Value.bool false) (fun wr hwr => by simp only [execOp, (F2.eval 20 (by omega)).trans (show _ = Value.bool false from by simp [upd, e0, e1, e5, e6, e7])]; first | rfl | simp [go_sem]) fun F3 => ?_
    refine lyp F3 rfl HCC rfl (by omega) (want_yes F3 rfl (e := 21) rfl (by omega) (show _ = Value.bool false from by simp [upd, e0, e1, e5, e6, e7])) (v := Value.bool true) (fun wr hwr => by simp only [execOp, (F3.eval 6 (by omega)).trans (show _ = Value.bool true from by simp [upd, e0, e1, e5, e6, e7])]; first | rfl | simp [go_sem]) fun F4 => ?_
    refine lyp F4 rfl HCC rfl (by omega) (wanted_none rfl) (v := Value.bool true) (fun wr hwr => by simp only [execOp, (F4.eval 21 (by omega)).trans (show _ = Value.bool false from by simp [upd, e0, e1, e5, e6, e7]), (F4.eval 22 (by omega)).trans (show _ = Value.bool true from by simp [upd, e0, e1, e5, e6, e7])]; simp [go_sem, Act.eval]) fun F5 => ?_
    refine lyp F5 rfl HCC rfl (by omega) (wanted_none rfl) (v := Value.bool true) (fun wr hwr => by simp only [execOp, (F5.eval 23 (by omega)).trans (show _ = Value.bool true from by simp [upd, e0, e1, e5, e6, e7])]; first | rfl | simp [go_sem]) fun F6 => ?_
    refine lnp F6 rfl HCC rfl (by omega) (want_no F6 rfl (e := 24) rfl (by omega) (show _ = Value.bool true from by simp [upd, e0, e1, e5, e6, e7]) (by decide)) fun F7 => ?_
    refine lnp F7 rfl HCC rfl (by omega) (want_no F7 rfl (e := 24) rfl (by omega) (show _ = Value.bool true from by simp [upd, e0, e1, e5, e6, e7]) (by decide)) fun F8 => ?_
    refine lnp F8 rfl HCC rfl (by omega) (want_no F8 rfl (e := 24) rfl (by omega) (show _ = Value.bool true from by simp [upd, e0, e1, e5, e6, e7]) (by decide)) fun F9 => ?_
    refine lnp F9 rfl HCC rfl (by omega) (want_no F9 rfl (e := 24) rfl (by omega) (show _ = Value.bool true from by simp [upd, e0, e1, e5, e6, e7]) (by decide)) fun F10 => ?_
    refine lnp F10 rfl HCC rfl (by omega) (want_no F10 rfl (e := 24) rfl (by omega) (show _ = Value.bool true from by simp [upd, e0, e1, e5, e6, e7]) (by decide)) fun F11 => ?_
    refine lnp F11 rfl HCC rfl (by omega) (want_no F11 rfl (e := 24) rfl (by omega) (show _ = Value.bool true from by simp [upd, e0, e1, e5, e6, e7]) (by decide)) fun F12 => ?_
    refine lyp F12 rfl HCC rfl (by omega) (wanted_none rfl) (v := Value.bool true) (fun wr hwr => by simp only [execOp, (F12.eval 24 (by omega)).trans (show _ = Value.bool true from by simp [upd, e0, e1, e5, e6, e7])]; simp [go_sem, Act.eval]) fun F13 => ?_
    refine lyp F13 rfl HCC rfl (by omega) (wanted_none rfl) (v := Value.bool true) (fun wr hwr => by simp only [execOp, (F13.eval 31 (by omega)).trans (show _ = Value.bool true from by simp [upd, e0, e1, e5, e6, e7])]; first | rfl | simp [go_sem]) fun F14 => ?_
    refine lnp F14 rfl HCC rfl (by omega) (want_no F14 rfl (e := 32) rfl (by omega) (show _ = Value.bool true from by simp [upd, e0, e1, e5, e6, e7]) (by decide)) fun F15 => ?_
    refine lnp F15 rfl HCC rfl (by omega) (want_no F15 rfl (e := 32) rfl (by omega) (show _ = Value.bool true from by simp [upd, e0, e1, e5, e6, e7]) (by decide)) fun F16 => ?_
    refine lnp F16 rfl HCC rfl (by omega) (want_no F16 rfl (e := 32) rfl (by omega) (show _ = Value.bool true from by simp [upd, e0, e1, e5, e6, e7]) (by decide)) fun F17 => ?_
    refine lnp F17 rfl HCC rfl (by omega) (want_no F17 rfl (e := 32) rfl (by omega) (show _ = Value.bool true from by simp [upd, e0, e1, e5, e6, e7]) (by decide)) fun F18 => ?_
    refine lnp F18 rfl HCC rfl (by omega) (want_no F18 rfl (e := 32) rfl (by omega) (show _ = Value.bool true from by simp [upd, e0, e1, e5, e6, e7]) (by decide)) fun F19 => ?_
    refine lnp F19 rfl HCC rfl (by omega) (want_no F19 rfl (e := 32) rfl (by omega) (show _ = Value.bool true from by simp [upd, e0, e1, e5, e6, e7]) (by decide)) fun F20 => ?_
    refine lnp F20 rfl HCC rfl (by omega) (want_no F20 rfl (e := 32) rfl (by omega) (show _ = Value.bool true from by simp [upd, e0, e1, e5, e6, e7]) (by decide)) fun F21 => ?_
    refine lnp F21 rfl HCC rfl (by omega) (want_no F21 rfl (e := 32) rfl (by omega) (show _ = Value.bool true from by simp [upd, e0, e1, e5, e6, e7]) (by decide)) fun F22 => ?_
    refine lyp F22 rfl HCC rfl (by omega) (wanted_none rfl) (v := Value.bool true) (fun wr hwr => by simp only [execOp, (F22.eval 32 (by omega)).trans (show _ = Value.bool true from by simp [upd, e0, e1, e5, e6, e7])]; simp [go_sem, Act.eval]) fun F23 => ?_
    refine ⟨fun _ => HCC, ?_⟩
    refine hK _ _ ?_
    clear F0 F1 F2 F3 F4 F5 F6 F7 F8 F9 F10 F11 F12 F13 F14 F15 F16 F17 F18 F19 F20 F21 F22 F23 e0 e1 e5 e6 e7 V0 V2
    simp only [Act.put, List.setIfInBounds_toArray, List.set_cons_succ, List.set_cons_zero]

    have HB3 : Hid (Below w.heap.size w ({ w2 with drawn := w2.drawn + 1 } : World)) := HB2.out.trans (HCC.mono HB2.out.size)
    clear HCC
    go_wp2_with fail
    go_ret
    exact ⟨rfl, RPost.same HT.out HB3.out⟩
  have hk1 : kn = false := by rw [hkn]; simpa using g3
  subst hk1
  by_cases g2 : homeN n rep = me
  · have hc : rlb me rep per KL n = false := by unfold rlb; simp [g2]
    rw [hc, if_neg (by decide)]
    have HP : Hid (homeN n rep = me) := g2
    clear hc hT hL hnl hrep g1 g2 g3 hkn
    go_enter Try.func55, Try.ntmps55
    go_wp2_with fail
    refine Calls.mono (HG.out _) ?_
    rintro e w' ⟨rfl, hw'⟩
    replace hw' := hw'.symm
    subst hw'
    go_wp2_with fail
    refine Calls.mono HK.out ?_
    rintro e w' ⟨rfl, hw'⟩
    replace hw' := hw'.symm
    subst hw'
    go_wp2_with fail
    refine Calls.mono (HHO.out _) ?_
    rintro e w2 ⟨rfl, hb2⟩
    have HT2 : Hid _ := HT.out.more hb2
    have HB2 : Hid _ := hb2
    clear hb2 c1
    try rw [g1t]
    go_wp2_with fail
    rename_i K hK
    try rw [show ∀ a : Act, a.put none undef = a from fun _ => rfl]
    refine wp_region_mix (fun wq => Below w2.heap.size w2 wq) (fun i => i == 99) 99 (by kernel_rfl) rfl (by kernel_rfl) (by kernel_rfl) (by kernel_rfl) ?_
    refine withFrP (N := 52) rfl ?_
    intro f0 F0 hff
    have e0 : f0 0 = Value.pointer (some ⟨rb, 0, none⟩) := hff 0
    have e1 : f0 1 = Value.string ⟨n.toArray⟩ := hff 1
    have e5 : f0 5 = Value.bool true := hff 5
    have e6 : f0 6 = Value.bool false := hff 6
    have e7 : f0 7 = Value.int .i64 (homeN n rep) := hff 7
    clear hff
    have HCC : (fun wq => Below w2.heap.size w2 wq) (({ w2 with drawn := w2.drawn + 1 } : World)) := (Below.drew (Below.refl w2.heap.size w2))
    have V0 : ∀ wr, Below w2.heap.size w2 wr → wr.cell? ⟨rb, 0, none⟩ = some (.int .i64 me) := fun wr hw => (hw.cell (p := ⟨rb, 0, none⟩) (World.block_lt_of_cell? w2 _ HT2.out.c0)).trans HT2.out.c0
    have V2 : ∀ wr, Below w2.heap.size w2 wr → wr.cell? ⟨rb, 2, none⟩ = some (.int .i64 per) := fun wr hw => (hw.cell (p := ⟨rb, 2, none⟩) (World.block_lt_of_cell? w2 _ HT2.out.c2)).trans HT2.out.c2
    refine lyp F0 rfl HCC rfl (by omega) (wanted_none rfl) (v := Value.bool true) (fun wr hwr => by simp only [execOp, (F0.eval 5 (by omega)).trans (show _ = Value.bool true from by simp [upd, e0, e1, e5, e6, e7])]; first | rfl | simp [go_sem]) fun F1 => ?_
    refine lyp F1 rfl HCC rfl (by omega) (wanted_none rfl) (v := Value.bool false) (fun wr hwr => by simp only [execOp, (F1.eval 19 (by omega)).trans (show _ = Value.bool true from by simp [upd, e0, e1, e5, e6, e7])]; simp [go_sem, Act.eval]) fun F2 => ?_
    refine lyp F2 rfl HCC rfl (by omega) (wanted_none rfl) (v := Value.bool false) (fun wr hwr => by simp only [execOp, (F2.eval 20 (by omega)).trans (show _ = Value.bool false from by simp [upd, e0, e1, e5, e6, e7])]; first | rfl | simp [go_sem]) fun F3 => ?_
    refine lyp F3 rfl HCC rfl (by omega) (want_yes F3 rfl (e := 21) rfl (by omega) (show _ = Value.bool false from by simp [upd, e0, e1, e5, e6, e7])) (v := Value.bool false) (fun wr hwr => by simp only [execOp, (F3.eval 6 (by omega)).trans (show _ = Value.bool false from by simp [upd, e0, e1, e5, e6, e7])]; first | rfl | simp [go_sem]) fun F4 => ?_
    refine lyp F4 rfl HCC rfl (by omega) (wanted_none rfl) (v := Value.bool false) (fun wr hwr => by simp only [execOp, (F4.eval 21 (by omega)).trans (show _ = Value.bool false from by simp [upd, e0, e1, e5, e6, e7]), (F4.eval 22 (by omega)).trans (show _ = Value.bool false from by simp [upd, e0, e1, e5, e6, e7])]; simp [go_sem, Act.eval]) fun F5 => ?_
    refine lyp F5 rfl HCC rfl (by omega) (wanted_none rfl) (v := Value.bool false) (fun wr hwr => by simp only [execOp, (F5.eval 23 (by omega)).trans (show _ = Value.bool false from by simp [upd, e0, e1, e5, e6, e7])]; first | rfl | simp [go_sem]) fun F6 => ?_
    refine lyp F6 rfl HCC rfl (by omega) (want_yes F6 rfl (e := 24) rfl (by omega) (show _ = Value.bool false from by simp [upd, e0, e1, e5, e6, e7])) (v := Value.int .i64 (homeN n rep)) (fun wr hwr => by simp only [execOp, (F6.eval 7 (by omega)).trans (show _ = Value.int .i64 (homeN n rep) from by simp [upd, e0, e1, e5, e6, e7])]; first | rfl | simp [go_sem]) fun F7 => ?_
    refine lyp F7 rfl HCC rfl (by omega) (want_yes F7 rfl (e := 24) rfl (by omega) (show _ = Value.bool false from by simp [upd, e0, e1, e5, e6, e7])) (v := Value.pointer (some ⟨rb, 0, none⟩)) (fun wr hwr => by simp only [execOp, (F7.eval 0 (by omega)).trans (show _ = Value.pointer (some ⟨rb, 0, none⟩) from by simp [upd, e0, e1, e5, e6, e7])]; first | rfl | simp [go_sem]) fun F8 => ?_
    refine lyp F8 rfl HCC rfl (by omega) (want_yes F8 rfl (e := 24) rfl (by omega) (show _ = Value.bool false from by simp [upd, e0, e1, e5, e6, e7])) (v := Value.pointer (some ⟨rb, 0, none⟩)) (fun wr hwr => by simp only [execOp, (F8.eval 26 (by omega)).trans (show _ = Value.pointer (some ⟨rb, 0, none⟩) from by simp [upd, e0, e1, e5, e6, e7])]; simp [go_sem]) fun F9 => ?_
    refine lyp F9 rfl HCC rfl (by omega) (want_yes F9 rfl (e := 24) rfl (by omega) (show _ = Value.bool false from by simp [upd, e0, e1, e5, e6, e7])) (v := Value.pointer (some ⟨rb, 0, none⟩)) (fun wr hwr => by simp only [execOp, (F9.eval 27 (by omega)).trans (show _ = Value.pointer (some ⟨rb, 0, none⟩) from by simp [upd, e0, e1, e5, e6, e7])]; simp [go_sem]) fun F10 => ?_
    refine lyp F10 rfl HCC rfl (by omega) (want_yes F10 rfl (e := 24) rfl (by omega) (show _ = Value.bool false from by simp [upd, e0, e1, e5, e6, e7])) (v := Value.int .i64 me) (fun wr hwr => by simp only [execOp, (F10.eval 28 (by omega)).trans (show _ = Value.pointer (some ⟨rb, 0, none⟩) from by simp [upd, e0, e1, e5, e6, e7])]; simp [go_sem, V0 wr hwr]) fun F11 => ?_
    refine lyp F11 rfl HCC rfl (by omega) (want_yes F11 rfl (e := 24) rfl (by omega) (show _ = Value.bool false from by simp [upd, e0, e1, e5, e6, e7])) (v := Value.bool true) (fun wr hwr => by simp only [execOp, (F11.eval 25 (by omega)).trans (show _ = Value.int .i64 (homeN n rep) from by simp [upd, e0, e1, e5, e6, e7]), (F11.eval 29 (by omega)).trans (show _ = Value.int .i64 me from by simp [upd, e0, e1, e5, e6, e7])]; simp [go_sem, Act.eval, HP.out]) fun F12 => ?_
    refine lyp F12 rfl HCC rfl (by omega) (wanted_none rfl) (v := Value.bool true) (fun wr hwr => by simp only [execOp, (F12.eval 24 (by omega)).trans (show _ = Value.bool false from by simp [upd, e0, e1, e5, e6, e7]), (F12.eval 30 (by omega)).trans (show _ = Value.bool true from by simp [upd, e0, e1, e5, e6, e7])]; simp [go_sem, Act.eval]) fun F13 => ?_
    refine lyp F13 rfl HCC rfl (by omega) (wanted_none rfl) (v := Value.bool true) (fun wr hwr => by simp only [execOp, (F13.eval 31 (by omega)).trans (show _ = Value.bool true from by simp [upd, e0, e1, e5, e6, e7])]; first | rfl | simp [go_sem]) fun F14 => ?_
    refine lnp F14 rfl HCC rfl (by omega) (want_no F14 rfl (e := 32) rfl (by omega) (show _ = Value.bool true from by simp [upd, e0, e1, e5, e6, e7]) (by decide)) fun F15 => ?_
    refine lnp F15 rfl HCC rfl (by omega) (want_no F15 rfl (e := 32) rfl (by omega) (show _ = Value.bool true from by simp [upd, e0, e1, e5, e6, e7]) (by decide)) fun F16 => ?_
    refine lnp F16 rfl HCC rfl (by omega) (want_no F16 rfl (e := 32) rfl (by omega) (show _ = Value.bool true from by simp [upd, e0, e1, e5, e6, e7]) (by decide)) fun F17 => ?_
    refine lnp F17 rfl HCC rfl (by omega) (want_no F17 rfl (e := 32) rfl (by omega) (show _ = Value.bool true from by simp [upd, e0, e1, e5, e6, e7]) (by decide)) fun F18 => ?_
    refine lnp F18 rfl HCC rfl (by omega) (want_no F18 rfl (e := 32) rfl (by omega) (show _ = Value.bool true from by simp [upd, e0, e1, e5, e6, e7]) (by decide)) fun F19 => ?_
    refine lnp F19 rfl HCC rfl (by omega) (want_no F19 rfl (e := 32) rfl (by omega) (show _ = Value.bool true from by simp [upd, e0, e1, e5, e6, e7]) (by decide)) fun F20 => ?_
    refine lnp F20 rfl HCC rfl (by omega) (want_no F20 rfl (e := 32) rfl (by omega) (show _ = Value.bool true from by simp [upd, e0, e1, e5, e6, e7]) (by decide)) fun F21 => ?_
    refine lnp F21 rfl HCC rfl (by omega) (want_no F21 rfl (e := 32) rfl (by omega) (show _ = Value.bool true from by simp [upd, e0, e1, e5, e6, e7]) (by decide)) fun F22 => ?_
    refine lyp F22 rfl HCC rfl (by omega) (wanted_none rfl) (v := Value.bool true) (fun wr hwr => by simp only [execOp, (F22.eval 32 (by omega)).trans (show _ = Value.bool true from by simp [upd, e0, e1, e5, e6, e7])]; simp [go_sem, Act.eval]) fun F23 => ?_
    refine ⟨fun _ => HCC, ?_⟩
    refine hK _ _ ?_
    clear F0 F1 F2 F3 F4 F5 F6 F7 F8 F9 F10 F11 F12 F13 F14 F15 F16 F17 F18 F19 F20 F21 F22 F23 e0 e1 e5 e6 e7 V0 V2
    simp only [Act.put, List.setIfInBounds_toArray, List.set_cons_succ, List.set_cons_zero]

    have HB3 : Hid (Below w.heap.size w ({ w2 with drawn := w2.drawn + 1 } : World)) := HB2.out.trans (HCC.mono HB2.out.size)
    clear HCC
    go_wp2_with fail
    go_ret
    exact ⟨rfl, RPost.same HT.out HB3.out⟩
  have HP : Hid (¬ homeN n rep = me) := g2
  by_cases g4 : per ≤ (cntK rep (homeN n rep) KL : Int)
  · have hc : rlb me rep per KL n = false := by unfold rlb; simp [g4]
    rw [hc, if_neg (by decide)]
    have HQ : Hid (per ≤ (cntK rep (homeN n rep) KL : Int)) := g4
    clear hc hT hL hnl hrep g1 g2 g3 g4 hkn
    go_enter Try.func55, Try.ntmps55
    go_wp2_with fail
    refine Calls.mono (HG.out _) ?_
    rintro e w' ⟨rfl, hw'⟩
    replace hw' := hw'.symm
    subst hw'
    go_wp2_with fail
    refine Calls.mono HK.out ?_
    rintro e w' ⟨rfl, hw'⟩
    replace hw' := hw'.symm
    subst hw'
    go_wp2_with fail
    refine Calls.mono (HHO.out _) ?_
    rintro e w2 ⟨rfl, hb2⟩
    have HT2 : Hid _ := HT.out.more hb2
    have HB2 : Hid _ := hb2
    clear hb2 c1
    try rw [g1t]
    go_wp2_with fail
    rename_i K hK
    try rw [show ∀ a : Act, a.put none undef = a from fun _ => rfl]
    refine wp_region_mix (fun wq => Below w2.heap.size w2 wq) (fun i => i == 16 || i == 99) 99 (by kernel_rfl) rfl (by kernel_rfl) (by kernel_rfl) (by kernel_rfl) ?_
    refine withFrP (N := 52) rfl ?_
    intro f0 F0 hff
    have e0 : f0 0 = Value.pointer (some ⟨rb, 0, none⟩) := hff 0
    have e1 : f0 1 = Value.string ⟨n.toArray⟩ := hff 1
    have e5 : f0 5 = Value.bool true := hff 5
    have e6 : f0 6 = Value.bool false := hff 6
    have e7 : f0 7 = Value.int .i64 (homeN n rep) := hff 7
    clear hff
    have HCC : (fun wq => Below w2.heap.size w2 wq) (({ w2 with drawn := w2.drawn + 1 } : World)) := (Below.drew (Below.refl w2.heap.size w2))
    have V0 : ∀ wr, Below w2.heap.size w2 wr → wr.cell? ⟨rb, 0, none⟩ = some (.int .i64 me) := fun wr hw => (hw.cell (p := ⟨rb, 0, none⟩) (World.block_lt_of_cell? w2 _ HT2.out.c0)).trans HT2.out.c0
    have V2 : ∀ wr, Below w2.heap.size w2 wr → wr.cell? ⟨rb, 2, none⟩ = some (.int .i64 per) := fun wr hw => (hw.cell (p := ⟨rb, 2, none⟩) (World.block_lt_of_cell? w2 _ HT2.out.c2)).trans HT2.out.c2
    refine lyp F0 rfl HCC rfl (by omega) (wanted_none rfl) (v := Value.bool true) (fun wr hwr => by simp only [execOp, (F0.eval 5 (by omega)).trans (show _ = Value.bool true from by simp [upd, e0, e1, e5, e6, e7])]; first | rfl | simp [go_sem]) fun F1 => ?_
    refine lyp F1 rfl HCC rfl (by omega) (wanted_none rfl) (v := Value.bool false) (fun wr hwr => by simp only [execOp, (F1.eval 19 (by omega)).trans (show _ = Value.bool true from by simp [upd, e0, e1, e5, e6, e7])]; simp [go_sem, Act.eval]) fun F2 => ?_
    refine lyp F2 rfl HCC rfl (by omega) (wanted_none rfl) (v := Value.bool false) (fun wr hwr => by simp only [execOp, (F2.eval 20 (by omega)).trans (show _ = Value.bool false from by simp [upd, e0, e1, e5, e6, e7])]; first | rfl | simp [go_sem]) fun F3 => ?_
    refine lyp F3 rfl HCC rfl (by omega) (want_yes F3 rfl (e := 21) rfl (by omega) (show _ = Value.bool false from by simp [upd, e0, e1, e5, e6, e7])) (v := Value.bool false) (fun wr hwr => by simp only [execOp, (F3.eval 6 (by omega)).trans (show _ = Value.bool false from by simp [upd, e0, e1, e5, e6, e7])]; first | rfl | simp [go_sem]) fun F4 => ?_
    refine lyp F4 rfl HCC rfl (by omega) (wanted_none rfl) (v := Value.bool false) (fun wr hwr => by simp only [execOp, (F4.eval 21 (by omega)).trans (show _ = Value.bool false from by simp [upd, e0, e1, e5, e6, e7]), (F4.eval 22 (by omega)).trans (show _ = Value.bool false from by simp [upd, e0, e1, e5, e6, e7])]; simp [go_sem, Act.eval]) fun F5 => ?_
    refine lyp F5 rfl HCC rfl (by omega) (wanted_none rfl) (v := Value.bool false) (fun wr hwr => by simp only [execOp, (F5.eval 23 (by omega)).trans (show _ = Value.bool false from by simp [upd, e0, e1, e5, e6, e7])]; first | rfl | simp [go_sem]) fun F6 => ?_
    refine lyp F6 rfl HCC rfl (by omega) (want_yes F6 rfl (e := 24) rfl (by omega) (show _ = Value.bool false from by simp [upd, e0, e1, e5, e6, e7])) (v := Value.int .i64 (homeN n rep)) (fun wr hwr => by simp only [execOp, (F6.eval 7 (by omega)).trans (show _ = Value.int .i64 (homeN n rep) from by simp [upd, e0, e1, e5, e6, e7])]; first | rfl | simp [go_sem]) fun F7 => ?_
    refine lyp F7 rfl HCC rfl (by omega) (want_yes F7 rfl (e := 24) rfl (by omega) (show _ = Value.bool false from by simp [upd, e0, e1, e5, e6, e7])) (v := Value.pointer (some ⟨rb, 0, none⟩)) (fun wr hwr => by simp only [execOp, (F7.eval 0 (by omega)).trans (show _ = Value.pointer (some ⟨rb, 0, none⟩) from by simp [upd, e0, e1, e5, e6, e7])]; first | rfl | simp [go_sem]) fun F8 => ?_
    refine lyp F8 rfl HCC rfl (by omega) (want_yes F8 rfl (e := 24) rfl (by omega) (show _ = Value.bool false from by simp [upd, e0, e1, e5, e6, e7])) (v := Value.pointer (some ⟨rb, 0, none⟩)) (fun wr hwr => by simp only [execOp, (F8.eval 26 (by omega)).trans (show _ = Value.pointer (some ⟨rb, 0, none⟩) from by simp [upd, e0, e1, e5, e6, e7])]; simp [go_sem]) fun F9 => ?_
    refine lyp F9 rfl HCC rfl (by omega) (want_yes F9 rfl (e := 24) rfl (by omega) (show _ = Value.bool false from by simp [upd, e0, e1, e5, e6, e7])) (v := Value.pointer (some ⟨rb, 0, none⟩)) (fun wr hwr => by simp only [execOp, (F9.eval 27 (by omega)).trans (show _ = Value.pointer (some ⟨rb, 0, none⟩) from by simp [upd, e0, e1, e5, e6, e7])]; simp [go_sem]) fun F10 => ?_
    refine lyp F10 rfl HCC rfl (by omega) (want_yes F10 rfl (e := 24) rfl (by omega) (show _ = Value.bool false from by simp [upd, e0, e1, e5, e6, e7])) (v := Value.int .i64 me) (fun wr hwr => by simp only [execOp, (F10.eval 28 (by omega)).trans (show _ = Value.pointer (some ⟨rb, 0, none⟩) from by simp [upd, e0, e1, e5, e6, e7])]; simp [go_sem, V0 wr hwr]) fun F11 => ?_
    refine lyp F11 rfl HCC rfl (by omega) (want_yes F11 rfl (e := 24) rfl (by omega) (show _ = Value.bool false from by simp [upd, e0, e1, e5, e6, e7])) (v := Value.bool false) (fun wr hwr => by simp only [execOp, (F11.eval 25 (by omega)).trans (show _ = Value.int .i64 (homeN n rep) from by simp [upd, e0, e1, e5, e6, e7]), (F11.eval 29 (by omega)).trans (show _ = Value.int .i64 me from by simp [upd, e0, e1, e5, e6, e7])]; simp [go_sem, Act.eval, HP.out]) fun F12 => ?_
    refine lyp F12 rfl HCC rfl (by omega) (wanted_none rfl) (v := Value.bool false) (fun wr hwr => by simp only [execOp, (F12.eval 24 (by omega)).trans (show _ = Value.bool false from by simp [upd, e0, e1, e5, e6, e7]), (F12.eval 30 (by omega)).trans (show _ = Value.bool false from by simp [upd, e0, e1, e5, e6, e7])]; simp [go_sem, Act.eval]) fun F13 => ?_
    refine lyp F13 rfl HCC rfl (by omega) (wanted_none rfl) (v := Value.bool false) (fun wr hwr => by simp only [execOp, (F13.eval 31 (by omega)).trans (show _ = Value.bool false from by simp [upd, e0, e1, e5, e6, e7])]; first | rfl | simp [go_sem]) fun F14 => ?_
    refine lyp F14 rfl HCC rfl (by omega) (want_yes F14 rfl (e := 32) rfl (by omega) (show _ = Value.bool false from by simp [upd, e0, e1, e5, e6, e7])) (v := Value.pointer (some ⟨rb, 0, none⟩)) (fun wr hwr => by simp only [execOp, (F14.eval 0 (by omega)).trans (show _ = Value.pointer (some ⟨rb, 0, none⟩) from by simp [upd, e0, e1, e5, e6, e7])]; first | rfl | simp [go_sem]) fun F15 => ?_
    refine lyp F15 rfl HCC rfl (by omega) (want_yes F15 rfl (e := 32) rfl (by omega) (show _ = Value.bool false from by simp [upd, e0, e1, e5, e6, e7])) (v := Value.int .i64 (homeN n rep)) (fun wr hwr => by simp only [execOp, (F15.eval 7 (by omega)).trans (show _ = Value.int .i64 (homeN n rep) from by simp [upd, e0, e1, e5, e6, e7])]; first | rfl | simp [go_sem]) fun F16 => ?_
    refine lcp F16 rfl HCC rfl (by omega) (want_yes F16 rfl (e := 32) rfl (by omega) (show _ = Value.bool false from by simp [upd, e0, e1, e5, e6, e7])) (g := 66) (args := #[Value.pointer (some ⟨rb, 0, none⟩), Value.int .i64 (homeN n rep)]) (by simp only [execOp, resolve, invoke, List.map_toArray, List.map_cons, List.map_nil, (F16.eval 33 (by omega)).trans (show _ = Value.pointer (some ⟨rb, 0, none⟩) from by simp [upd, e0, e1, e5, e6, e7]), (F16.eval 34 (by omega)).trans (show _ = Value.int .i64 (homeN n rep) from by simp [upd, e0, e1, e5, e6, e7])]; simp [go_sem, Act.eval]) (HOF.out (({ w2 with drawn := w2.drawn + 1 } : World)) (HT2.out.more HCC)) ?_
    rintro e w3 ⟨rfl, hb3⟩
    refine ⟨_, rfl, fun F17 => ?_⟩
    have HC3 : (fun wq => Below w2.heap.size w2 wq) w3 := (Below.drew (Below.refl w2.heap.size w2)).trans hb3
    refine lyp F17 rfl HC3 rfl (by omega) (want_yes F17 rfl (e := 32) rfl (by omega) (show _ = Value.bool false from by simp [upd, e0, e1, e5, e6, e7])) (v := Value.pointer (some ⟨rb, 0, none⟩)) (fun wr hwr => by simp only [execOp, (F17.eval 0 (by omega)).trans (show _ = Value.pointer (some ⟨rb, 0, none⟩) from by simp [upd, e0, e1, e5, e6, e7])]; first | rfl | simp [go_sem]) fun F18 => ?_
    refine lyp F18 rfl HC3 rfl (by omega) (want_yes F18 rfl (e := 32) rfl (by omega) (show _ = Value.bool false from by simp [upd, e0, e1, e5, e6, e7])) (v := Value.pointer (some ⟨rb, 0, none⟩)) (fun wr hwr => by simp only [execOp, (F18.eval 36 (by omega)).trans (show _ = Value.pointer (some ⟨rb, 0, none⟩) from by simp [upd, e0, e1, e5, e6, e7])]; simp [go_sem]) fun F19 => ?_
    refine lyp F19 rfl HC3 rfl (by omega) (want_yes F19 rfl (e := 32) rfl (by omega) (show _ = Value.bool false from by simp [upd, e0, e1, e5, e6, e7])) (v := Value.pointer (some ⟨rb, 2, none⟩)) (fun wr hwr => by simp only [execOp, (F19.eval 37 (by omega)).trans (show _ = Value.pointer (some ⟨rb, 0, none⟩) from by simp [upd, e0, e1, e5, e6, e7])]; simp [go_sem]) fun F20 => ?_
    refine lyp F20 rfl HC3 rfl (by omega) (want_yes F20 rfl (e := 32) rfl (by omega) (show _ = Value.bool false from by simp [upd, e0, e1, e5, e6, e7])) (v := Value.int .i64 per) (fun wr hwr => by simp only [execOp, (F20.eval 38 (by omega)).trans (show _ = Value.pointer (some ⟨rb, 2, none⟩) from by simp [upd, e0, e1, e5, e6, e7])]; simp [go_sem, V2 wr hwr]) fun F21 => ?_
    refine lyp F21 rfl HC3 rfl (by omega) (want_yes F21 rfl (e := 32) rfl (by omega) (show _ = Value.bool false from by simp [upd, e0, e1, e5, e6, e7])) (v := Value.bool true) (fun wr hwr => by simp only [execOp, (F21.eval 35 (by omega)).trans (show _ = Value.int .i64 (cntK rep (homeN n rep) KL : Nat) from by simp [upd, e0, e1, e5, e6, e7]), (F21.eval 39 (by omega)).trans (show _ = Value.int .i64 per from by simp [upd, e0, e1, e5, e6, e7])]; simp [go_sem, Act.eval, HQ.out]) fun F22 => ?_
    refine lyp F22 rfl HC3 rfl (by omega) (wanted_none rfl) (v := Value.bool true) (fun wr hwr => by simp only [execOp, (F22.eval 32 (by omega)).trans (show _ = Value.bool false from by simp [upd, e0, e1, e5, e6, e7]), (F22.eval 40 (by omega)).trans (show _ = Value.bool true from by simp [upd, e0, e1, e5, e6, e7])]; simp [go_sem, Act.eval]) fun F23 => ?_
    refine ⟨fun _ => HC3, ?_⟩
    refine hK _ _ ?_
    clear F0 F1 F2 F3 F4 F5 F6 F7 F8 F9 F10 F11 F12 F13 F14 F15 F16 F17 F18 F19 F20 F21 F22 F23 e0 e1 e5 e6 e7 V0 V2
    simp only [Act.put, List.setIfInBounds_toArray, List.set_cons_succ, List.set_cons_zero]

    have HB3 : Hid (Below w.heap.size w w3) := HB2.out.trans (HC3.mono HB2.out.size)
    clear HC3 hb3 HCC
    go_wp2_with fail
    go_ret
    exact ⟨rfl, RPost.same HT.out HB3.out⟩
  · have hc : rlb me rep per KL n = true := by unfold rlb; simp [g1t, g2, g3]; omega
    rw [hc, if_pos rfl]
    have HQ : Hid (¬ per ≤ (cntK rep (homeN n rep) KL : Int)) := g4
    have HKL : Hid (KL.length ≤ 100000) := hL
    clear hc hT hL hnl hrep g1 g2 g3 g4 hkn
    go_enter Try.func55, Try.ntmps55
    go_wp2_with fail
    refine Calls.mono (HG.out _) ?_
    rintro e w' ⟨rfl, hw'⟩
    replace hw' := hw'.symm
    subst hw'
    go_wp2_with fail
    refine Calls.mono HK.out ?_
    rintro e w' ⟨rfl, hw'⟩
    replace hw' := hw'.symm
    subst hw'
    go_wp2_with fail
    refine Calls.mono (HHO.out _) ?_
    rintro e w2 ⟨rfl, hb2⟩
    have HT2 : Hid _ := HT.out.more hb2
    have HB2 : Hid _ := hb2
    clear hb2 c1
    try rw [g1t]
    go_wp2_with fail
    rename_i K hK
    try rw [show ∀ a : Act, a.put none undef = a from fun _ => rfl]
    refine wp_region_mix (fun wq => Below w2.heap.size w2 wq) (fun i => i == 16 || i == 99) 99 (by kernel_rfl) rfl (by kernel_rfl) (by kernel_rfl) (by kernel_rfl) ?_
    refine withFrP (N := 52) rfl ?_
    intro f0 F0 hff
    have e0 : f0 0 = Value.pointer (some ⟨rb, 0, none⟩) := hff 0
    have e1 : f0 1 = Value.string ⟨n.toArray⟩ := hff 1
    have e5 : f0 5 = Value.bool true := hff 5
    have e6 : f0 6 = Value.bool false := hff 6
    have e7 : f0 7 = Value.int .i64 (homeN n rep) := hff 7
    clear hff
    have HCC : (fun wq => Below w2.heap.size w2 wq) (({ w2 with drawn := w2.drawn + 1 } : World)) := (Below.drew (Below.refl w2.heap.size w2))
    have V0 : ∀ wr, Below w2.heap.size w2 wr → wr.cell? ⟨rb, 0, none⟩ = some (.int .i64 me) := fun wr hw => (hw.cell (p := ⟨rb, 0, none⟩) (World.block_lt_of_cell? w2 _ HT2.out.c0)).trans HT2.out.c0
    have V2 : ∀ wr, Below w2.heap.size w2 wr → wr.cell? ⟨rb, 2, none⟩ = some (.int .i64 per) := fun wr hw => (hw.cell (p := ⟨rb, 2, none⟩) (World.block_lt_of_cell? w2 _ HT2.out.c2)).trans HT2.out.c2
    refine lyp F0 rfl HCC rfl (by omega) (wanted_none rfl) (v := Value.bool true) (fun wr hwr => by simp only [execOp, (F0.eval 5 (by omega)).trans (show _ = Value.bool true from by simp [upd, e0, e1, e5, e6, e7])]; first | rfl | simp [go_sem]) fun F1 => ?_
    refine lyp F1 rfl HCC rfl (by omega) (wanted_none rfl) (v := Value.bool false) (fun wr hwr => by simp only [execOp, (F1.eval 19 (by omega)).trans (show _ = Value.bool true from by simp [upd, e0, e1, e5, e6, e7])]; simp [go_sem, Act.eval]) fun F2 => ?_
    refine lyp F2 rfl HCC rfl (by omega) (wanted_none rfl) (v := Value.bool false) (fun wr hwr => by simp only [execOp, (F2.eval 20 (by omega)).trans (show _ = Value.bool false from by simp [upd, e0, e1, e5, e6, e7])]; first | rfl | simp [go_sem]) fun F3 => ?_
    refine lyp F3 rfl HCC rfl (by omega) (want_yes F3 rfl (e := 21) rfl (by omega) (show _ = Value.bool false from by simp [upd, e0, e1, e5, e6, e7])) (v := Value.bool false) (fun wr hwr => by simp only [execOp, (F3.eval 6 (by omega)).trans (show _ = Value.bool false from by simp [upd, e0, e1, e5, e6, e7])]; first | rfl | simp [go_sem]) fun F4 => ?_
    refine lyp F4 rfl HCC rfl (by omega) (wanted_none rfl) (v := Value.bool false) (fun wr hwr => by simp only [execOp, (F4.eval 21 (by omega)).trans (show _ = Value.bool false from by simp [upd, e0, e1, e5, e6, e7]), (F4.eval 22 (by omega)).trans (show _ = Value.bool false from by simp [upd, e0, e1, e5, e6, e7])]; simp [go_sem, Act.eval]) fun F5 => ?_
    refine lyp F5 rfl HCC rfl (by omega) (wanted_none rfl) (v := Value.bool false) (fun wr hwr => by simp only [execOp, (F5.eval 23 (by omega)).trans (show _ = Value.bool false from by simp [upd, e0, e1, e5, e6, e7])]; first | rfl | simp [go_sem]) fun F6 => ?_
    refine lyp F6 rfl HCC rfl (by omega) (want_yes F6 rfl (e := 24) rfl (by omega) (show _ = Value.bool false from by simp [upd, e0, e1, e5, e6, e7])) (v := Value.int .i64 (homeN n rep)) (fun wr hwr => by simp only [execOp, (F6.eval 7 (by omega)).trans (show _ = Value.int .i64 (homeN n rep) from by simp [upd, e0, e1, e5, e6, e7])]; first | rfl | simp [go_sem]) fun F7 => ?_
    refine lyp F7 rfl HCC rfl (by omega) (want_yes F7 rfl (e := 24) rfl (by omega) (show _ = Value.bool false from by simp [upd, e0, e1, e5, e6, e7])) (v := Value.pointer (some ⟨rb, 0, none⟩)) (fun wr hwr => by simp only [execOp, (F7.eval 0 (by omega)).trans (show _ = Value.pointer (some ⟨rb, 0, none⟩) from by simp [upd, e0, e1, e5, e6, e7])]; first | rfl | simp [go_sem]) fun F8 => ?_
    refine lyp F8 rfl HCC rfl (by omega) (want_yes F8 rfl (e := 24) rfl (by omega) (show _ = Value.bool false from by simp [upd, e0, e1, e5, e6, e7])) (v := Value.pointer (some ⟨rb, 0, none⟩)) (fun wr hwr => by simp only [execOp, (F8.eval 26 (by omega)).trans (show _ = Value.pointer (some ⟨rb, 0, none⟩) from by simp [upd, e0, e1, e5, e6, e7])]; simp [go_sem]) fun F9 => ?_
    refine lyp F9 rfl HCC rfl (by omega) (want_yes F9 rfl (e := 24) rfl (by omega) (show _ = Value.bool false from by simp [upd, e0, e1, e5, e6, e7])) (v := Value.pointer (some ⟨rb, 0, none⟩)) (fun wr hwr => by simp only [execOp, (F9.eval 27 (by omega)).trans (show _ = Value.pointer (some ⟨rb, 0, none⟩) from by simp [upd, e0, e1, e5, e6, e7])]; simp [go_sem]) fun F10 => ?_
    refine lyp F10 rfl HCC rfl (by omega) (want_yes F10 rfl (e := 24) rfl (by omega) (show _ = Value.bool false from by simp [upd, e0, e1, e5, e6, e7])) (v := Value.int .i64 me) (fun wr hwr => by simp only [execOp, (F10.eval 28 (by omega)).trans (show _ = Value.pointer (some ⟨rb, 0, none⟩) from by simp [upd, e0, e1, e5, e6, e7])]; simp [go_sem, V0 wr hwr]) fun F11 => ?_
    refine lyp F11 rfl HCC rfl (by omega) (want_yes F11 rfl (e := 24) rfl (by omega) (show _ = Value.bool false from by simp [upd, e0, e1, e5, e6, e7])) (v := Value.bool false) (fun wr hwr => by simp only [execOp, (F11.eval 25 (by omega)).trans (show _ = Value.int .i64 (homeN n rep) from by simp [upd, e0, e1, e5, e6, e7]), (F11.eval 29 (by omega)).trans (show _ = Value.int .i64 me from by simp [upd, e0, e1, e5, e6, e7])]; simp [go_sem, Act.eval, HP.out]) fun F12 => ?_
    refine lyp F12 rfl HCC rfl (by omega) (wanted_none rfl) (v := Value.bool false) (fun wr hwr => by simp only [execOp, (F12.eval 24 (by omega)).trans (show _ = Value.bool false from by simp [upd, e0, e1, e5, e6, e7]), (F12.eval 30 (by omega)).trans (show _ = Value.bool false from by simp [upd, e0, e1, e5, e6, e7])]; simp [go_sem, Act.eval]) fun F13 => ?_
    refine lyp F13 rfl HCC rfl (by omega) (wanted_none rfl) (v := Value.bool false) (fun wr hwr => by simp only [execOp, (F13.eval 31 (by omega)).trans (show _ = Value.bool false from by simp [upd, e0, e1, e5, e6, e7])]; first | rfl | simp [go_sem]) fun F14 => ?_
    refine lyp F14 rfl HCC rfl (by omega) (want_yes F14 rfl (e := 32) rfl (by omega) (show _ = Value.bool false from by simp [upd, e0, e1, e5, e6, e7])) (v := Value.pointer (some ⟨rb, 0, none⟩)) (fun wr hwr => by simp only [execOp, (F14.eval 0 (by omega)).trans (show _ = Value.pointer (some ⟨rb, 0, none⟩) from by simp [upd, e0, e1, e5, e6, e7])]; first | rfl | simp [go_sem]) fun F15 => ?_
    refine lyp F15 rfl HCC rfl (by omega) (want_yes F15 rfl (e := 32) rfl (by omega) (show _ = Value.bool false from by simp [upd, e0, e1, e5, e6, e7])) (v := Value.int .i64 (homeN n rep)) (fun wr hwr => by simp only [execOp, (F15.eval 7 (by omega)).trans (show _ = Value.int .i64 (homeN n rep) from by simp [upd, e0, e1, e5, e6, e7])]; first | rfl | simp [go_sem]) fun F16 => ?_
    refine lcp F16 rfl HCC rfl (by omega) (want_yes F16 rfl (e := 32) rfl (by omega) (show _ = Value.bool false from by simp [upd, e0, e1, e5, e6, e7])) (g := 66) (args := #[Value.pointer (some ⟨rb, 0, none⟩), Value.int .i64 (homeN n rep)]) (by simp only [execOp, resolve, invoke, List.map_toArray, List.map_cons, List.map_nil, (F16.eval 33 (by omega)).trans (show _ = Value.pointer (some ⟨rb, 0, none⟩) from by simp [upd, e0, e1, e5, e6, e7]), (F16.eval 34 (by omega)).trans (show _ = Value.int .i64 (homeN n rep) from by simp [upd, e0, e1, e5, e6, e7])]; simp [go_sem, Act.eval]) (HOF.out (({ w2 with drawn := w2.drawn + 1 } : World)) (HT2.out.more HCC)) ?_
    rintro e w3 ⟨rfl, hb3⟩
    refine ⟨_, rfl, fun F17 => ?_⟩
    have HC3 : (fun wq => Below w2.heap.size w2 wq) w3 := (Below.drew (Below.refl w2.heap.size w2)).trans hb3
    refine lyp F17 rfl HC3 rfl (by omega) (want_yes F17 rfl (e := 32) rfl (by omega) (show _ = Value.bool false from by simp [upd, e0, e1, e5, e6, e7])) (v := Value.pointer (some ⟨rb, 0, none⟩)) (fun wr hwr => by simp only [execOp, (F17.eval 0 (by omega)).trans (show _ = Value.pointer (some ⟨rb, 0, none⟩) from by simp [upd, e0, e1, e5, e6, e7])]; first | rfl | simp [go_sem]) fun F18 => ?_
    refine lyp F18 rfl HC3 rfl (by omega) (want_yes F18 rfl (e := 32) rfl (by omega) (show _ = Value.bool false from by simp [upd, e0, e1, e5, e6, e7])) (v := Value.pointer (some ⟨rb, 0, none⟩)) (fun wr hwr => by simp only [execOp, (F18.eval 36 (by omega)).trans (show _ = Value.pointer (some ⟨rb, 0, none⟩) from by simp [upd, e0, e1, e5, e6, e7])]; simp [go_sem]) fun F19 => ?_
    refine lyp F19 rfl HC3 rfl (by omega) (want_yes F19 rfl (e := 32) rfl (by omega) (show _ = Value.bool false from by simp [upd, e0, e1, e5, e6, e7])) (v := Value.pointer (some ⟨rb, 2, none⟩)) (fun wr hwr => by simp only [execOp, (F19.eval 37 (by omega)).trans (show _ = Value.pointer (some ⟨rb, 0, none⟩) from by simp [upd, e0, e1, e5, e6, e7])]; simp [go_sem]) fun F20 => ?_
    refine lyp F20 rfl HC3 rfl (by omega) (want_yes F20 rfl (e := 32) rfl (by omega) (show _ = Value.bool false from by simp [upd, e0, e1, e5, e6, e7])) (v := Value.int .i64 per) (fun wr hwr => by simp only [execOp, (F20.eval 38 (by omega)).trans (show _ = Value.pointer (some ⟨rb, 2, none⟩) from by simp [upd, e0, e1, e5, e6, e7])]; simp [go_sem, V2 wr hwr]) fun F21 => ?_
    refine lyp F21 rfl HC3 rfl (by omega) (want_yes F21 rfl (e := 32) rfl (by omega) (show _ = Value.bool false from by simp [upd, e0, e1, e5, e6, e7])) (v := Value.bool false) (fun wr hwr => by simp only [execOp, (F21.eval 35 (by omega)).trans (show _ = Value.int .i64 (cntK rep (homeN n rep) KL : Nat) from by simp [upd, e0, e1, e5, e6, e7]), (F21.eval 39 (by omega)).trans (show _ = Value.int .i64 per from by simp [upd, e0, e1, e5, e6, e7])]; simp [go_sem, Act.eval, HQ.out]) fun F22 => ?_
    refine lyp F22 rfl HC3 rfl (by omega) (wanted_none rfl) (v := Value.bool false) (fun wr hwr => by simp only [execOp, (F22.eval 32 (by omega)).trans (show _ = Value.bool false from by simp [upd, e0, e1, e5, e6, e7]), (F22.eval 40 (by omega)).trans (show _ = Value.bool false from by simp [upd, e0, e1, e5, e6, e7])]; simp [go_sem, Act.eval]) fun F23 => ?_
    refine ⟨fun _ => HC3, ?_⟩
    refine hK _ _ ?_
    clear F0 F1 F2 F3 F4 F5 F6 F7 F8 F9 F10 F11 F12 F13 F14 F15 F16 F17 F18 F19 F20 F21 F22 F23 e0 e1 e5 e6 e7 V0 V2
    simp only [Act.put, List.setIfInBounds_toArray, List.set_cons_succ, List.set_cons_zero]

    have HB3 : Hid (Below w.heap.size w w3) := HB2.out.trans (HC3.mono HB2.out.size)
    have hT3 := HT2.out.more HC3
    have c3 := hT3.c3
    obtain ⟨ao, cap, hv, _⟩ := own_slice hT3.kr
    rw [hv] at c3
    have HRO : Hid (World.ownsRow w3 B 9 1 (.slice ao KL.length cap) KL.length (flatS KL)) := show World.ownsRow w3 B 9 1 (.slice ao KL.length cap) KL.length (flatS KL) from by rw [← hv]; exact hT3.kr
    have HSZ : Hid (B ≤ w3.heap.size) := hT3.low
    have HT3 : Hid _ := hT3
    have HV : Hid (kl = .slice ao KL.length cap) := hv
    clear HC3 hb3 hT3 hv HCC
    go_wp2_with (first | (at_builtin; go_must (refine wpList_appS rfl _ _ rfl B KL.length _ KL rfl HRO.out n rfl (by first | rfl | simp) HKL.out HSZ.out ?_)))
    intro v' w5 ho5 hg5
    obtain ⟨ao5, cap5, hv5, _⟩ := own_slice ho5
    subst hv5
    have hB5 := hg5.chg.blk HT3.out.blk (by rw [← HV.out]; exact HT3.out.knb HT3.out.blk (by decide))
    have hfz := hB5.frozen 3
    have hcz : w5.cell? ⟨rb, 3, none⟩ = some kl := hB5.cell 3
    have HPO : Hid (RPost B rb kl wl me rep per (KL ++ [n]) WL w (w5.setCell ⟨rb, 3, none⟩ (.slice ao5 (KL.length + 1) cap5))) := RPost.ofK (KL' := KL ++ [n]) HT.out HB3.out (by rw [HV.out]; exact hg5) (by rw [List.length_append]; exact ho5)
    rw [HV.out] at hcz
    clear ho5 hg5 hB5 c3
    go_wp2_with fail
    go_ret
    exact ⟨rfl, HPO.out⟩
end Go.Proofs.Ytbjlaloofpdbfaa
namespace Go.Proofs.Ytbjlaloofpdbfaa
open Go.RowKit Go.PlainAid
set_option linter.unusedVariables false
set_option linter.unusedSimpArgs false
theorem flatA_get : ∀ (es : List ((Int × Int) × OpA)) (i j : Nat) (e : (Int × Int) × OpA), es[i]? = some e → j < 6 → (flatA es)[i * 6 + j]? = (askcs e)[j]?
  | [], _, _, _, h, _ => by simp at h
  | x :: t, 0, j, e, h, hj => by
    simp at h
    subst h
    simp only [flatA, List.flatMap_cons, Nat.zero_mul, Nat.zero_add]
    exact List.getElem?_append_left (by simp [askcs]; omega)
  | x :: t, i + 1, j, e, h, hj => by
    have ih := flatA_get t i j e (by simpa using h) hj
    simp only [flatA, List.flatMap_cons] at ih ⊢
    rw [List.getElem?_append_right (by simp [askcs]; omega)]
    rw [← ih]
    congr 1
    simp [askcs]
    omega
/-- A call that waits, in memory. -/
structure AskAt (w : World) (g q : Nat) (p : (Int × Int) × OpA) : Prop where
  c0 : w.cell? ⟨g, q * 6, none⟩ = some (.int .i64 p.1.1)
  c1 : w.cell? ⟨g, q * 6 + 1, none⟩ = some (.int .i64 p.1.2)
  c2 : w.cell? ⟨g, q * 6 + 2, none⟩ = some (.int .i64 p.2.k)
  c3 : w.cell? ⟨g, q * 6 + 3, none⟩ = some (.string ⟨p.2.n.toArray⟩)
  c4 : w.cell? ⟨g, q * 6 + 4, none⟩ = some (.int .i64 p.2.a)
  c5 : w.cell? ⟨g, q * 6 + 5, none⟩ = some (.int .i64 p.2.b)
theorem askAt {w : World} {B : Nat} {v : Value} {WL : List ((Int × Int) × OpA)} (h : w.ownsRow B 108 6 v WL.length (flatA WL)) {q : Nat} {p : (Int × Int) × OpA} (hx : WL[q]? = some p) : ∃ g cap, v = .slice (some ⟨g, 0, none⟩) WL.length cap ∧ AskAt w g q p := by
  have hq := (List.getElem?_eq_some_iff.1 hx).1
  rcases h.2 with ⟨_, h0⟩ | ⟨g, cap, cur, rfl, _⟩
  · omega
  · have key : ∀ j u, (askcs p)[j]? = some u → w.cell? ⟨g, q * 6 + j, none⟩ = some u := fun j u hu => by
      have hj : j < 6 := by have := (List.getElem?_eq_some_iff.1 hu).1; simpa [askcs] using this
      have := h.cells (g := g) rfl (q * 6 + j) u (by rw [flatA_get WL q j p hx hj]; exact hu)
      rw [addr_add, Nat.zero_add] at this
      exact this
    exact ⟨g, cap, rfl, key 0 _ rfl, key 1 _ rfl, key 2 _ rfl, key 3 _ rfl, key 4 _ rfl, key 5 _ rfl⟩
theorem AskAt.keep {w w' : World} {g q : Nat} {p : (Int × Int) × OpA} (h : AskAt w g q p) (hb : Below w.heap.size w w') : AskAt w' g q p := by
  have hg := World.block_lt_of_cell? w _ h.c0
  have key : ∀ j, w'.cell? ⟨g, j, none⟩ = w.cell? ⟨g, j, none⟩ := fun j => hb.cell (p := ⟨g, j, none⟩) hg
  exact ⟨(key _).trans h.c0, (key _).trans h.c1, (key _).trans h.c2, (key _).trans h.c3, (key _).trans h.c4, (key _).trans h.c5⟩
theorem info108 : (Try.prog.info? 108).map (fun i => (i.zero, i.size, i.bytes)) = some (some (.agg #[.int .i64 0, .int .i64 0, .int .i64 0, .string ⟨#[]⟩, .int .i64 0, .int .i64 0]), 6, 56) := by kernel_rfl
theorem append_ask {w : World} {L ln : Nat} {v : Value} {es : List ((Int × Int) × OpA)} (p : (Int × Int) × OpA) (hr : w.ownsRow L 108 6 v ln (flatA es)) (hln : ln ≤ 100000) (hL : L ≤ w.heap.size) (ty : TypeId) :
    ∃ v5 w5, (Builtin.append_ #[95, 95] ty #[v, .slice (some ⟨w.heap.size, 0, none⟩) 1 1]).run Try.prog (w.alloc (.cells #[.int .i64 p.1.1, .int .i64 p.1.2, .int .i64 p.2.k, .string ⟨p.2.n.toArray⟩, .int .i64 p.2.a, .int .i64 p.2.b] 108)) = .ok v5 w5 ∧ w5.ownsRow L 108 6 v5 (ln + 1) (flatA (es ++ [p])) ∧ Grew w w5 v v5 := by
  obtain ⟨v', w', h1, h2, h3, _⟩ := app_any 95 108 (.agg #[.int .i64 0, .int .i64 0, .int .i64 0, .string ⟨#[]⟩, .int .i64 0, .int .i64 0]) 6 56 Try.underlying95 info108 rfl (by decide) (by decide) (hr.alloc (.cells #[.int .i64 p.1.1, .int .i64 p.1.2, .int .i64 p.2.k, .string ⟨p.2.n.toArray⟩, .int .i64 p.2.a, .int .i64 p.2.b] 108)) ⟨w.heap.size, 0, none⟩ 1 1 (askcs p) rfl (fun j u hu => by
    rw [addr_add, Nat.zero_add]
    have hB : Blk (w.alloc (.cells #[.int .i64 p.1.1, .int .i64 p.1.2, .int .i64 p.2.k, .string ⟨p.2.n.toArray⟩, .int .i64 p.2.a, .int .i64 p.2.b] 108)) w.heap.size #[.int .i64 p.1.1, .int .i64 p.1.2, .int .i64 p.2.k, .string ⟨p.2.n.toArray⟩, .int .i64 p.2.a, .int .i64 p.2.b] 108 := heap_alloc_new w _
    rw [hB.cell j]
    simpa [askcs] using hu) (fun u hu => by simp [askcs] at hu; rcases hu with rfl | rfl | rfl | rfl | rfl | rfl <;> rfl) (by omega) (by rw [World.size_alloc]; omega) ty
  refine ⟨v', w', h1, ?_, h3.ofAlloc⟩
  rw [flatA_append]
  have : flatA [p] = askcs p := by simp [flatA]
  rw [this]
  exact h2
def WLook (c : Int × Int) (WL : List ((Int × Int) × OpA)) : Bool := (look c WL).isSome
theorem look_none_iff {c : Int × Int} {WL : List ((Int × Int) × OpA)} (h : ∀ p ∈ WL, p.1 ≠ c) : (look c WL).isSome = false := by
  unfold look
  have : WL.find? (fun p => decide (c = p.1)) = none := by
    rw [List.find?_eq_none]
    intro x hx
    simpa using fun e => h x hx e.symm
  rw [this]
  rfl
theorem look_some_of {c : Int × Int} {WL : List ((Int × Int) × OpA)} {p : (Int × Int) × OpA} (hp : p ∈ WL) (h : p.1 = c) : (look c WL).isSome = true := by
  unfold look
  cases hf : WL.find? (fun p => decide (c = p.1)) with
  | some x => rfl
  | none =>
    have := List.find?_eq_none.1 hf p hp
    simp [h] at this
set_option maxRecDepth 100000 in
set_option maxHeartbeats 1600000 in
theorem rask_any {B rb : Nat} {kl wl : Value} {me rep per : Int} {KL : List (List UInt8)} {WL : List ((Int × Int) × OpA)} (c : Int × Int) (o : OpA) (w : World) (hT : RT B rb kl wl me rep per KL WL w) (hL : WL.length ≤ 100000) (hl : o.n.length ≤ 140737488355328) :
    Calls Try.prog 56 #[.pointer (some ⟨rb, 0, none⟩), callV c, opV o] w fun q w' => q = .returned (.int .i64 (askCode WL c o)) ∧ RPost B rb kl wl me rep per KL (askNext WL c o) w w' := by
  obtain ⟨cs, ci⟩ := c
  obtain ⟨k, n, a, b⟩ := o
  simp only at hl
  have HG : Hid (∀ w, _) := fun w => rgood_any n w (by omega)
  unfold callV opV
  simp only
  obtain ⟨X, hX⟩ : ∃ X, X = (w.alloc (.cells #[.int .i64 cs, .int .i64 ci] 37)).alloc (.cells #[.int .i64 k, .string ⟨n.toArray⟩, .int .i64 a, .int .i64 b] 39) := ⟨_, rfl⟩
  have hb1 : Below w.heap.size w (w.alloc (.cells #[.int .i64 cs, .int .i64 ci] 37)) := (Below.refl _ _).alloc (Nat.le_refl _) _
  have hbX : Below w.heap.size w X := by rw [hX]; exact hb1.alloc hb1.size _
  have hCB : Blk X w.heap.size #[.int .i64 cs, .int .i64 ci] 37 := by
    rw [hX]
    exact Blk.below (heap_alloc_new w _) ((Below.refl _ _).alloc (Nat.le_refl _) _) (by simp)
  have hOB : Blk X (w.heap.size + 1) #[.int .i64 k, .string ⟨n.toArray⟩, .int .i64 a, .int .i64 b] 39 := by
    rw [hX]
    have := heap_alloc_new (w.alloc (.cells #[.int .i64 cs, .int .i64 ci] 37)) (.cells #[.int .i64 k, .string ⟨n.toArray⟩, .int .i64 a, .int .i64 b] 39)
    rw [World.size_alloc] at this
    exact this
  have HT : Hid _ := hT
  have HTX : Hid _ := hT.more hbX
  have HBX : Hid _ := hbX
  obtain ⟨cb, hcb⟩ : ∃ cb, cb = w.heap.size := ⟨_, rfl⟩
  obtain ⟨ob, hob⟩ : ∃ ob, ob = w.heap.size + 1 := ⟨_, rfl⟩
  have HCBX : Hid (Blk X cb #[.int .i64 cs, .int .i64 ci] 37) := show Blk X cb #[.int .i64 cs, .int .i64 ci] 37 from by rw [hcb]; exact hCB
  have HOB : Hid (Blk X ob #[.int .i64 k, .string ⟨n.toArray⟩, .int .i64 a, .int .i64 b] 39) := show Blk X ob #[.int .i64 k, .string ⟨n.toArray⟩, .int .i64 a, .int .i64 b] 39 from by rw [hob]; exact hOB
  have o1 : X.cell? ⟨ob, 1, none⟩ = some (.string ⟨n.toArray⟩) := HOB.out.cell 1
  obtain ⟨ao, cap, hv, _⟩ := own_slice hT.wr
  have HWV : Hid (wl = .slice ao WL.length cap) := hv
  have HC4 : Hid (∀ wr, Below X.heap.size X wr → wr.cell? ⟨rb, 4, none⟩ = some (.slice ao WL.length cap)) := fun wr hw => by
    have := (HTX.out.more hw).c4
    rw [hv] at this
    exact this
  have HLN : Hid (WL.length ≤ 100000) := hL
  clear hb1 hbX hCB hOB hT hv
  by_cases g1 : nameB n = false
  · have hc : askCode WL (cs, ci) ⟨k, n, a, b⟩ = 1 := by unfold askCode; rw [if_pos g1]
    have hnx : askNext WL (cs, ci) ⟨k, n, a, b⟩ = WL := by unfold askNext; rw [hc, if_neg (by decide)]
    rw [hc, hnx]
    clear hc hL hnx
    go_enter Try.func56, Try.ntmps56
    go_wp2_with fail
    rw [← hX, ← hob, ← hcb]
    clear hX hob hcb
    refine Calls.mono (HG.out _) ?_
    rintro e w' ⟨rfl, hw'⟩
    replace hw' := hw'.symm
    subst hw'
    try rw [g1]
    clear o1
    go_wp2_with fail
    go_ret
    exact ⟨rfl, RPost.same HT.out HBX.out⟩
  have g1t : nameB n = true := by simpa using g1
  go_enter Try.func56, Try.ntmps56
  go_wp2_with fail
  rw [← hX, ← hob, ← hcb]
  clear hX hob hcb
  refine Calls.mono (HG.out _) ?_
  rintro e w' ⟨rfl, hw'⟩
  replace hw' := hw'.symm
  subst hw'
  rw [g1t]
  have HG1 : Hid (¬ nameB n = false) := g1
  clear o1 g1 g1t
  go_wp2_with fail
  have H0 : Hid _ := Below.refl X.heap.size X
  go_loopw [8] (fun i wr => ∃ q : Nat, q ≤ WL.length ∧ i = .int .i64 q ∧ (∀ p ∈ WL.take q, p.1 ≠ (cs, ci)) ∧ Below X.heap.size X wr) (fun i _ => WL.length - (intOf i).toNat)
  case atStart => exact ⟨0, Nat.zero_le _, rfl, by simp, H0.out⟩
  case round =>
    obtain ⟨q, hq, rfl, hpre, hbel⟩ := hrel
    have XW := HC4.out wr hbel
    by_cases hlt : q < WL.length
    · obtain ⟨p, hp⟩ : ∃ p, WL[q]? = some p := ⟨WL[q], List.getElem?_eq_getElem hlt⟩
      obtain ⟨g, cap2, hv2, XA⟩ := askAt (HTX.out.more hbel).wr hp
      rw [HWV.out] at hv2
      cases hv2
      have hlti : (q : Int) < (WL.length : Int) := by omega
      have HCB : Hid (Blk wr cb #[.int .i64 cs, .int .i64 ci] 37) := Blk.below HCBX.out hbel (Blk.lt HCBX.out)
      have HEQ0 : Hid (∀ wr, (Go.Op.equal 37 (.agg #[.int .i64 p.1.1, .int .i64 p.1.2]) (.agg #[.int .i64 cs, .int .i64 ci])).run Try.prog wr = .ok (decide (p.1 = (cs, ci))) wr) := fun wr => eq_call p.1 (cs, ci) wr
      have HBE : Hid _ := hbel
      by_cases he : p.1 = (cs, ci)
      · have HEQ : Hid (∀ wr, (Go.Op.equal 37 (.agg #[.int .i64 p.1.1, .int .i64 p.1.2]) (.agg #[.int .i64 cs, .int .i64 ci])).run Try.prog wr = .ok true wr) := fun wr => by
          have := HEQ0.out wr
          rw [decide_eq_true he] at this
          exact this
        have HCD : Hid (askCode WL (cs, ci) ⟨k, n, a, b⟩ = 133) := show askCode WL (cs, ci) ⟨k, n, a, b⟩ = 133 from by
          unfold askCode
          rw [if_neg HG1.out, if_pos (look_some_of (List.mem_of_getElem? hp) he)]
        have HE : Hid (p.1.1 = cs ∧ p.1.2 = ci) := ⟨congrArg Prod.fst he, congrArg Prod.snd he⟩
        clear hpre hp he HEQ0 hbel
        go_wp2_with fail
        rename_i K hK
        try rw [show ∀ a : Act, a.put none undef = a from fun _ => rfl]
        refine wp_region_mix (fun wq => Below wr.heap.size wr wq) (fun i => i == 99) 99 (by kernel_rfl) rfl (by kernel_rfl) (by kernel_rfl) (by kernel_rfl) ?_
        refine withFrP (N := 45) rfl ?_
        intro f0 F0 hff
        have e0 : f0 0 = Value.pointer (some ⟨rb, 0, none⟩) := hff 0
        have ec : f0 4 = Value.pointer (some ⟨cb, 0, none⟩) := hff 4
        have ei : f0 8 = Value.int .i64 (q : Int) := hff 8
        clear hff
        have HCC : (fun wq => Below wr.heap.size wr wq) (({ wr with drawn := wr.drawn + 1 } : World)) := (Below.drew (Below.refl wr.heap.size wr))
        have V4 : ∀ wq, Below wr.heap.size wr wq → wq.cell? ⟨rb, 4, none⟩ = some (.slice (some ⟨g, 0, none⟩) WL.length cap) := fun wq hw => (hw.cell (p := ⟨rb, 4, none⟩) (World.block_lt_of_cell? wr _ XW)).trans XW
        have VA : ∀ wq, Below wr.heap.size wr wq → AskAt wq g q p := fun wq hw => XA.keep hw
        have U0 : ∀ wq, Below wr.heap.size wr wq → wq.cell? ⟨cb, 0, none⟩ = some (.int .i64 cs) := fun wq hw => (Blk.below HCB.out hw (Blk.lt HCB.out)).cell 0
        have U1 : ∀ wq, Below wr.heap.size wr wq → wq.cell? ⟨cb, 1, none⟩ = some (.int .i64 ci) := fun wq hw => (Blk.below HCB.out hw (Blk.lt HCB.out)).cell 1
        refine lyp F0 rfl HCC rfl (by omega) (wanted_none rfl) (v := Value.pointer (some ⟨rb, 0, none⟩)) (fun wr hwr => by simp only [execOp, (F0.eval 0 (by omega)).trans (show _ = Value.pointer (some ⟨rb, 0, none⟩) from by simp [upd, e0, ec, ei])]; first | rfl | simp [go_sem]) fun F1 => ?_
        refine lyp F1 rfl HCC rfl (by omega) (wanted_none rfl) (v := Value.pointer (some ⟨rb, 0, none⟩)) (fun wr hwr => by simp only [execOp, (F1.eval 23 (by omega)).trans (show _ = Value.pointer (some ⟨rb, 0, none⟩) from by simp [upd, e0, ec, ei])]; simp [go_sem]) fun F2 => ?_
        refine lyp F2 rfl HCC rfl (by omega) (wanted_none rfl) (v := Value.pointer (some ⟨rb, 4, none⟩)) (fun wr hwr => by simp only [execOp, (F2.eval 24 (by omega)).trans (show _ = Value.pointer (some ⟨rb, 0, none⟩) from by simp [upd, e0, ec, ei])]; simp [go_sem]) fun F3 => ?_
        refine lyp F3 rfl HCC rfl (by omega) (wanted_none rfl) (v := Value.slice (some ⟨g, 0, none⟩) WL.length cap) (fun wr hwr => by simp only [execOp, (F3.eval 25 (by omega)).trans (show _ = Value.pointer (some ⟨rb, 4, none⟩) from by simp [upd, e0, ec, ei])]; simp [go_sem, V4 _ hwr]) fun F4 => ?_
        refine lyp F4 rfl HCC rfl (by omega) (wanted_none rfl) (v := Value.int .i64 (q : Int)) (fun wr hwr => by simp only [execOp, (F4.eval 8 (by omega)).trans (show _ = Value.int .i64 (q : Int) from by simp [upd, e0, ec, ei])]; first | rfl | simp [go_sem]) fun F5 => ?_
        refine lyp F5 rfl HCC rfl (by omega) (wanted_none rfl) (v := Value.pointer (some ⟨g, q * 6, none⟩)) (fun wr hwr => by simp only [execOp, (F5.eval 26 (by omega)).trans (show _ = Value.slice (some ⟨g, 0, none⟩) WL.length cap from by simp [upd, e0, ec, ei]), (F5.eval 27 (by omega)).trans (show _ = Value.int .i64 (q : Int) from by simp [upd, e0, ec, ei])]; simp [go_sem, hlt]) fun F6 => ?_
        refine lyp F6 rfl HCC rfl (by omega) (wanted_none rfl) (v := Value.pointer (some ⟨g, q * 6, none⟩)) (fun wr hwr => by simp only [execOp, (F6.eval 28 (by omega)).trans (show _ = Value.pointer (some ⟨g, q * 6, none⟩) from by simp [upd, e0, ec, ei])]; simp [go_sem]) fun F7 => ?_
        refine lyp F7 rfl HCC rfl (by omega) (wanted_none rfl) (v := Value.agg #[.int .i64 p.1.1, .int .i64 p.1.2]) (fun wr hwr => by simp only [execOp, (F7.eval 29 (by omega)).trans (show _ = Value.pointer (some ⟨g, q * 6, none⟩) from by simp [upd, e0, ec, ei])]; simp [go_sem, (VA _ hwr).c0, (VA _ hwr).c1]) fun F8 => ?_
        refine lyp F8 rfl HCC rfl (by omega) (wanted_none rfl) (v := Value.agg #[.int .i64 cs, .int .i64 ci]) (fun wr hwr => by simp only [execOp, (F8.eval 4 (by omega)).trans (show _ = Value.pointer (some ⟨cb, 0, none⟩) from by simp [upd, e0, ec, ei])]; simp [go_sem, U0 _ hwr, U1 _ hwr]) fun F9 => ?_
        refine lyp F9 rfl HCC rfl (by omega) (wanted_none rfl) (v := Value.bool true) (fun wr hwr => by simp only [execOp, (F9.eval 30 (by omega)).trans (show _ = Value.agg #[.int .i64 p.1.1, .int .i64 p.1.2] from by simp [upd, e0, ec, ei]), (F9.eval 31 (by omega)).trans (show _ = Value.agg #[.int .i64 cs, .int .i64 ci] from by simp [upd, e0, ec, ei])]; simp [go_sem, HE.out]) fun F10 => ?_
        refine ⟨fun _ => HCC, ?_⟩
        refine hK _ _ ?_
        clear F0 F1 F2 F3 F4 F5 F6 F7 F8 F9 F10 e0 ec ei V4 VA U0 U1
        simp only [Act.put, List.setIfInBounds_toArray, List.set_cons_succ, List.set_cons_zero]

        have HB2 : Hid (Below w.heap.size w ({ wr with drawn := wr.drawn + 1 } : World)) := (HBX.out.trans (HBE.out.mono HBX.out.size)).trans (HCC.mono (Nat.le_trans HBX.out.size HBE.out.size))
        clear HCC
        go_wp2_with fail
        go_ret
        have hnx : askNext WL (cs, ci) ⟨k, n, a, b⟩ = WL := by unfold askNext; rw [HCD.out, if_neg (by decide)]
        rw [HCD.out, hnx]
        exact ⟨rfl, RPost.same HT.out HB2.out⟩
      · have HEQ : Hid (∀ wr, (Go.Op.equal 37 (.agg #[.int .i64 p.1.1, .int .i64 p.1.2]) (.agg #[.int .i64 cs, .int .i64 ci])).run Try.prog wr = .ok false wr) := fun wr => by
          have := HEQ0.out wr
          rw [decide_eq_false he] at this
          exact this
        have HPR : Hid (∀ y ∈ WL.take (q + 1), y.1 ≠ (cs, ci)) := fun y hy => by
          rw [List.take_add_one, hp] at hy
          rcases List.mem_append.1 hy with hy | hy
          · exact hpre y hy
          · simp at hy
            subst hy
            exact he
        have HE : Hid (¬ (p.1.1 = cs ∧ p.1.2 = ci)) := fun h => he (Prod.ext h.1 h.2)
        clear hpre hp he HEQ0 hbel
        go_wp2_with fail
        rename_i K hK
        try rw [show ∀ a : Act, a.put none undef = a from fun _ => rfl]
        refine wp_region_mix (fun wq => Below wr.heap.size wr wq) (fun i => i == 99) 99 (by kernel_rfl) rfl (by kernel_rfl) (by kernel_rfl) (by kernel_rfl) ?_
        refine withFrP (N := 45) rfl ?_
        intro f0 F0 hff
        have e0 : f0 0 = Value.pointer (some ⟨rb, 0, none⟩) := hff 0
        have ec : f0 4 = Value.pointer (some ⟨cb, 0, none⟩) := hff 4
        have ei : f0 8 = Value.int .i64 (q : Int) := hff 8
        clear hff
        have HCC : (fun wq => Below wr.heap.size wr wq) (({ wr with drawn := wr.drawn + 1 } : World)) := (Below.drew (Below.refl wr.heap.size wr))
        have V4 : ∀ wq, Below wr.heap.size wr wq → wq.cell? ⟨rb, 4, none⟩ = some (.slice (some ⟨g, 0, none⟩) WL.length cap) := fun wq hw => (hw.cell (p := ⟨rb, 4, none⟩) (World.block_lt_of_cell? wr _ XW)).trans XW
        have VA : ∀ wq, Below wr.heap.size wr wq → AskAt wq g q p := fun wq hw => XA.keep hw
        have U0 : ∀ wq, Below wr.heap.size wr wq → wq.cell? ⟨cb, 0, none⟩ = some (.int .i64 cs) := fun wq hw => (Blk.below HCB.out hw (Blk.lt HCB.out)).cell 0
        have U1 : ∀ wq, Below wr.heap.size wr wq → wq.cell? ⟨cb, 1, none⟩ = some (.int .i64 ci) := fun wq hw => (Blk.below HCB.out hw (Blk.lt HCB.out)).cell 1
        refine lyp F0 rfl HCC rfl (by omega) (wanted_none rfl) (v := Value.pointer (some ⟨rb, 0, none⟩)) (fun wr hwr => by simp only [execOp, (F0.eval 0 (by omega)).trans (show _ = Value.pointer (some ⟨rb, 0, none⟩) from by simp [upd, e0, ec, ei])]; first | rfl | simp [go_sem]) fun F1 => ?_
        refine lyp F1 rfl HCC rfl (by omega) (wanted_none rfl) (v := Value.pointer (some ⟨rb, 0, none⟩)) (fun wr hwr => by simp only [execOp, (F1.eval 23 (by omega)).trans (show _ = Value.pointer (some ⟨rb, 0, none⟩) from by simp [upd, e0, ec, ei])]; simp [go_sem]) fun F2 => ?_
        refine lyp F2 rfl HCC rfl (by omega) (wanted_none rfl) (v := Value.pointer (some ⟨rb, 4, none⟩)) (fun wr hwr => by simp only [execOp, (F2.eval 24 (by omega)).trans (show _ = Value.pointer (some ⟨rb, 0, none⟩) from by simp [upd, e0, ec, ei])]; simp [go_sem]) fun F3 => ?_
        refine lyp F3 rfl HCC rfl (by omega) (wanted_none rfl) (v := Value.slice (some ⟨g, 0, none⟩) WL.length cap) (fun wr hwr => by simp only [execOp, (F3.eval 25 (by omega)).trans (show _ = Value.pointer (some ⟨rb, 4, none⟩) from by simp [upd, e0, ec, ei])]; simp [go_sem, V4 _ hwr]) fun F4 => ?_
        refine lyp F4 rfl HCC rfl (by omega) (wanted_none rfl) (v := Value.int .i64 (q : Int)) (fun wr hwr => by simp only [execOp, (F4.eval 8 (by omega)).trans (show _ = Value.int .i64 (q : Int) from by simp [upd, e0, ec, ei])]; first | rfl | simp [go_sem]) fun F5 => ?_
        refine lyp F5 rfl HCC rfl (by omega) (wanted_none rfl) (v := Value.pointer (some ⟨g, q * 6, none⟩)) (fun wr hwr => by simp only [execOp, (F5.eval 26 (by omega)).trans (show _ = Value.slice (some ⟨g, 0, none⟩) WL.length cap from by simp [upd, e0, ec, ei]), (F5.eval 27 (by omega)).trans (show _ = Value.int .i64 (q : Int) from by simp [upd, e0, ec, ei])]; simp [go_sem, hlt]) fun F6 => ?_
        refine lyp F6 rfl HCC rfl (by omega) (wanted_none rfl) (v := Value.pointer (some ⟨g, q * 6, none⟩)) (fun wr hwr => by simp only [execOp, (F6.eval 28 (by omega)).trans (show _ = Value.pointer (some ⟨g, q * 6, none⟩) from by simp [upd, e0, ec, ei])]; simp [go_sem]) fun F7 => ?_
        refine lyp F7 rfl HCC rfl (by omega) (wanted_none rfl) (v := Value.agg #[.int .i64 p.1.1, .int .i64 p.1.2]) (fun wr hwr => by simp only [execOp, (F7.eval 29 (by omega)).trans (show _ = Value.pointer (some ⟨g, q * 6, none⟩) from by simp [upd, e0, ec, ei])]; simp [go_sem, (VA _ hwr).c0, (VA _ hwr).c1]) fun F8 => ?_
        refine lyp F8 rfl HCC rfl (by omega) (wanted_none rfl) (v := Value.agg #[.int .i64 cs, .int .i64 ci]) (fun wr hwr => by simp only [execOp, (F8.eval 4 (by omega)).trans (show _ = Value.pointer (some ⟨cb, 0, none⟩) from by simp [upd, e0, ec, ei])]; simp [go_sem, U0 _ hwr, U1 _ hwr]) fun F9 => ?_
        refine lyp F9 rfl HCC rfl (by omega) (wanted_none rfl) (v := Value.bool false) (fun wr hwr => by simp only [execOp, (F9.eval 30 (by omega)).trans (show _ = Value.agg #[.int .i64 p.1.1, .int .i64 p.1.2] from by simp [upd, e0, ec, ei]), (F9.eval 31 (by omega)).trans (show _ = Value.agg #[.int .i64 cs, .int .i64 ci] from by simp [upd, e0, ec, ei])]; simp [go_sem, HE.out]; first | done | (intro h1 h2; exact HE.out ⟨h1, h2⟩)) fun F10 => ?_
        refine ⟨fun _ => HCC, ?_⟩
        refine hK _ _ ?_
        clear F0 F1 F2 F3 F4 F5 F6 F7 F8 F9 F10 e0 ec ei V4 VA U0 U1
        simp only [Act.put, List.setIfInBounds_toArray, List.set_cons_succ, List.set_cons_zero]

        have HB2 : Hid (Below X.heap.size X ({ wr with drawn := wr.drawn + 1 } : World)) := HBE.out.trans (HCC.mono HBE.out.size)
        clear HCC XW XA
        go_wp2_with fail
        go_roundw
        case rel => exact ⟨q + 1, by omega, by go_num, HPR.out, HB2.out⟩
        case measure => simp [intOf]; omega
    · have hnot : ¬ (q : Int) < (WL.length : Int) := by omega
      have HCD : Hid (askCode WL (cs, ci) ⟨k, n, a, b⟩ = 0) := show askCode WL (cs, ci) ⟨k, n, a, b⟩ = 0 from by
        rw [List.take_of_length_le (by omega)] at hpre
        unfold askCode
        rw [if_neg HG1.out, if_neg (by rw [look_none_iff hpre]; decide)]
      have HTR : Hid _ := HTX.out.more hbel
      have HCR : Hid (Blk wr cb #[.int .i64 cs, .int .i64 ci] 37) := Blk.below HCBX.out hbel (Blk.lt HCBX.out)
      have HOR : Hid (Blk wr ob #[.int .i64 k, .string ⟨n.toArray⟩, .int .i64 a, .int .i64 b] 39) := Blk.below HOB.out hbel (Blk.lt HOB.out)
      have HRO : Hid (World.ownsRow wr B 108 6 (.slice ao WL.length cap) WL.length (flatA WL)) := show World.ownsRow wr B 108 6 (.slice ao WL.length cap) WL.length (flatA WL) from by rw [← HWV.out]; exact HTR.out.wr
      have HBE : Hid (Below w.heap.size w wr) := HBX.out.trans (hbel.mono HBX.out.size)
      clear hpre hbel
      go_wp2_with fail
      try rw [show ∀ a : Act, a.put none undef = a from fun _ => rfl]
      refine wp_region_mix (fun wq => wq.cell? ⟨rb, 4, none⟩ = some (.slice ao WL.length cap) ∧ (wq.cell? ⟨cb, 0, none⟩ = some (.int .i64 cs) ∧ wq.cell? ⟨cb, 1, none⟩ = some (.int .i64 ci)) ∧ (wq.cell? ⟨ob, 0, none⟩ = some (.int .i64 k) ∧ wq.cell? ⟨ob, 1, none⟩ = some (.string ⟨n.toArray⟩) ∧ wq.cell? ⟨ob, 2, none⟩ = some (.int .i64 a) ∧ wq.cell? ⟨ob, 3, none⟩ = some (.int .i64 b))) (fun i => i == 8 || i == 9 || i == 12) 12 (by kernel_rfl) rfl (by kernel_rfl) (by kernel_rfl) (by kernel_rfl) ?_
      refine withFrP (N := 45) rfl ?_
      intro f0 F0 hff
      have e0 : f0 0 = Value.pointer (some ⟨rb, 0, none⟩) := hff 0
      have ec : f0 4 = Value.pointer (some ⟨cb, 0, none⟩) := hff 4
      have eo : f0 5 = Value.pointer (some ⟨ob, 0, none⟩) := hff 5
      clear hff
      have hBr : Blk (({ wr with drawn := wr.drawn + 1 } : World)) rb _ 97 := HTR.out.blk
      have hBc : Blk (({ wr with drawn := wr.drawn + 1 } : World)) cb #[.int .i64 cs, .int .i64 ci] 37 := HCR.out
      have hBo : Blk (({ wr with drawn := wr.drawn + 1 } : World)) ob #[.int .i64 k, .string ⟨n.toArray⟩, .int .i64 a, .int .i64 b] 39 := HOR.out
      have HCC : (fun wq => wq.cell? ⟨rb, 4, none⟩ = some (.slice ao WL.length cap) ∧ (wq.cell? ⟨cb, 0, none⟩ = some (.int .i64 cs) ∧ wq.cell? ⟨cb, 1, none⟩ = some (.int .i64 ci)) ∧ (wq.cell? ⟨ob, 0, none⟩ = some (.int .i64 k) ∧ wq.cell? ⟨ob, 1, none⟩ = some (.string ⟨n.toArray⟩) ∧ wq.cell? ⟨ob, 2, none⟩ = some (.int .i64 a) ∧ wq.cell? ⟨ob, 3, none⟩ = some (.int .i64 b))) (({ wr with drawn := wr.drawn + 1 } : World)) := ⟨XW, ⟨hBc.cell 0, hBc.cell 1⟩, hBo.cell 0, hBo.cell 1, hBo.cell 2, hBo.cell 3⟩
      have hal : Below (({ wr with drawn := wr.drawn + 1 } : World)).heap.size (({ wr with drawn := wr.drawn + 1 } : World)) ((({ wr with drawn := wr.drawn + 1 } : World)).alloc (.cells #[.int .i64 cs, .int .i64 ci, .int .i64 k, .string ⟨n.toArray⟩, .int .i64 a, .int .i64 b] 108)) := (Below.refl _ _).alloc (Nat.le_refl _) _
      have HC1 : (fun wq => wq.cell? ⟨rb, 4, none⟩ = some (.slice ao WL.length cap) ∧ (wq.cell? ⟨cb, 0, none⟩ = some (.int .i64 cs) ∧ wq.cell? ⟨cb, 1, none⟩ = some (.int .i64 ci)) ∧ (wq.cell? ⟨ob, 0, none⟩ = some (.int .i64 k) ∧ wq.cell? ⟨ob, 1, none⟩ = some (.string ⟨n.toArray⟩) ∧ wq.cell? ⟨ob, 2, none⟩ = some (.int .i64 a) ∧ wq.cell? ⟨ob, 3, none⟩ = some (.int .i64 b))) ((({ wr with drawn := wr.drawn + 1 } : World)).alloc (.cells #[.int .i64 cs, .int .i64 ci, .int .i64 k, .string ⟨n.toArray⟩, .int .i64 a, .int .i64 b] 108)) := ⟨(hal.cell (p := ⟨rb, 4, none⟩) (World.block_lt_of_cell? wr _ XW)).trans XW, ⟨(Blk.below hBc hal (Blk.lt hBc)).cell 0, (Blk.below hBc hal (Blk.lt hBc)).cell 1⟩, (Blk.below hBo hal (Blk.lt hBo)).cell 0, (Blk.below hBo hal (Blk.lt hBo)).cell 1, (Blk.below hBo hal (Blk.lt hBo)).cell 2, (Blk.below hBo hal (Blk.lt hBo)).cell 3⟩
      refine lyp F0 rfl HCC rfl (by omega) (wanted_none rfl) (v := Value.pointer (some ⟨rb, 0, none⟩)) (fun wr hwr => by simp only [execOp, (F0.eval 0 (by omega)).trans (show _ = Value.pointer (some ⟨rb, 0, none⟩) from by simp [upd, e0, ec, eo])]; first | rfl | simp [go_sem]) fun F1 => ?_
      refine lyp F1 rfl HCC rfl (by omega) (wanted_none rfl) (v := Value.pointer (some ⟨rb, 0, none⟩)) (fun wr hwr => by simp only [execOp, (F1.eval 0 (by omega)).trans (show _ = Value.pointer (some ⟨rb, 0, none⟩) from by simp [upd, e0, ec, eo])]; first | rfl | simp [go_sem]) fun F2 => ?_
      refine lyp F2 rfl HCC rfl (by omega) (wanted_none rfl) (v := Value.pointer (some ⟨rb, 0, none⟩)) (fun wr hwr => by simp only [execOp, (F2.eval 34 (by omega)).trans (show _ = Value.pointer (some ⟨rb, 0, none⟩) from by simp [upd, e0, ec, eo])]; simp [go_sem]) fun F3 => ?_
      refine lyp F3 rfl HCC rfl (by omega) (wanted_none rfl) (v := Value.pointer (some ⟨rb, 4, none⟩)) (fun wr hwr => by simp only [execOp, (F3.eval 35 (by omega)).trans (show _ = Value.pointer (some ⟨rb, 0, none⟩) from by simp [upd, e0, ec, eo])]; simp [go_sem]) fun F4 => ?_
      refine lyp F4 rfl HCC rfl (by omega) (wanted_none rfl) (v := Value.slice ao WL.length cap) (fun wr hwr => by simp only [execOp, (F4.eval 36 (by omega)).trans (show _ = Value.pointer (some ⟨rb, 4, none⟩) from by simp [upd, e0, ec, eo])]; simp [go_sem, hwr.1]) fun F5 => ?_
      refine lyp F5 rfl HCC rfl (by omega) (wanted_none rfl) (v := Value.agg #[.int .i64 cs, .int .i64 ci]) (fun wr hwr => by simp only [execOp, (F5.eval 4 (by omega)).trans (show _ = Value.pointer (some ⟨cb, 0, none⟩) from by simp [upd, e0, ec, eo])]; simp [go_sem, hwr.2.1.1, hwr.2.1.2]) fun F6 => ?_
      refine lyp F6 rfl HCC rfl (by omega) (wanted_none rfl) (v := Value.agg #[.int .i64 k, .string ⟨n.toArray⟩, .int .i64 a, .int .i64 b]) (fun wr hwr => by simp only [execOp, (F6.eval 5 (by omega)).trans (show _ = Value.pointer (some ⟨ob, 0, none⟩) from by simp [upd, e0, ec, eo])]; simp [go_sem, hwr.2.2.1, hwr.2.2.2.1, hwr.2.2.2.2.1, hwr.2.2.2.2.2]) fun F7 => ?_
      refine lyp F7 rfl HCC rfl (by omega) (wanted_none rfl) (v := Value.agg #[.int .i64 cs, .int .i64 ci, .int .i64 k, .string ⟨n.toArray⟩, .int .i64 a, .int .i64 b]) (fun wr hwr => by simp only [execOp, List.map_toArray, List.map_cons, List.map_nil, (F7.eval 38 (by omega)).trans (show _ = Value.agg #[.int .i64 cs, .int .i64 ci] from by simp [upd, e0, ec, eo]), (F7.eval 39 (by omega)).trans (show _ = Value.agg #[.int .i64 k, .string ⟨n.toArray⟩, .int .i64 a, .int .i64 b] from by simp [upd, e0, ec, eo])]; simp [go_sem]) fun F8 => ?_
      refine lep F8 rfl HCC rfl (by omega) (wanted_none rfl) (v := Value.slice (some ⟨wr.heap.size, 0, none⟩) 1 1) (w1 := (({ wr with drawn := wr.drawn + 1 } : World)).alloc (.cells #[.int .i64 cs, .int .i64 ci, .int .i64 k, .string ⟨n.toArray⟩, .int .i64 a, .int .i64 b] 108)) (by simp only [execOp, List.map_toArray, List.map_cons, List.map_nil, (F8.eval 40 (by omega)).trans (show _ = Value.agg #[.int .i64 cs, .int .i64 ci, .int .i64 k, .string ⟨n.toArray⟩, .int .i64 a, .int .i64 b] from by simp [upd, e0, ec, eo])]; simp [go_sem]) fun F9 => ?_
      obtain ⟨v5, w5, hrun, ho5, hg5⟩ := append_ask (w := ({ wr with drawn := wr.drawn + 1 } : World)) ((cs, ci), ⟨k, n, a, b⟩) (show World.ownsRow (({ wr with drawn := wr.drawn + 1 } : World)) B 108 6 (.slice ao WL.length cap) WL.length (flatA WL) from ownsRow_same HRO.out (fun _ _ => rfl)) HLN.out HTR.out.low 95
      obtain ⟨ao5, cap5, hv5, _⟩ := own_slice ho5
      subst hv5
      have nk : ∀ (b : Nat) (D : Array Value) (U : TypeId), Blk (({ wr with drawn := wr.drawn + 1 } : World)) b D U → U ≠ 108 → ¬ (Value.slice ao WL.length cap).ownBlock = some b := fun b D U hB hU e => by
        obtain ⟨cu, hcu⟩ := ownsRow_type HRO.out e
        exact Blk.ne_t (show Blk wr b D U from hB) (show Blk wr b cu 108 from hcu) hU rfl
      have hr5 := hg5.chg.blk hBr (nk _ _ _ hBr (by decide))
      have hc5 := hg5.chg.blk hBc (nk _ _ _ hBc (by decide))
      have ho5' := hg5.chg.blk hBo (nk _ _ _ hBo (by decide))
      have hz5 : w5.cell? ⟨rb, 4, none⟩ = some (.slice ao WL.length cap) := by
        have := hr5.cell 4
        rw [HWV.out] at this
        exact this
      have hf5 := hr5.frozen 4
      have HC5 : (fun wq => wq.cell? ⟨rb, 4, none⟩ = some (.slice ao WL.length cap) ∧ (wq.cell? ⟨cb, 0, none⟩ = some (.int .i64 cs) ∧ wq.cell? ⟨cb, 1, none⟩ = some (.int .i64 ci)) ∧ (wq.cell? ⟨ob, 0, none⟩ = some (.int .i64 k) ∧ wq.cell? ⟨ob, 1, none⟩ = some (.string ⟨n.toArray⟩) ∧ wq.cell? ⟨ob, 2, none⟩ = some (.int .i64 a) ∧ wq.cell? ⟨ob, 3, none⟩ = some (.int .i64 b))) w5 := ⟨hz5, ⟨hc5.cell 0, hc5.cell 1⟩, ho5'.cell 0, ho5'.cell 1, ho5'.cell 2, ho5'.cell 3⟩
      refine lep F9 rfl HC1 rfl (by omega) (wanted_none rfl) (v := Value.slice ao5 (WL.length + 1) cap5) (w1 := w5) (by simp only [execOp, resolve, invoke, builtin, List.map_toArray, List.map_cons, List.map_nil, (F9.eval 37 (by omega)).trans (show _ = Value.slice ao WL.length cap from by simp [upd, e0, ec, eo]), (F9.eval 41 (by omega)).trans (show _ = Value.slice (some ⟨wr.heap.size, 0, none⟩) 1 1 from by simp [upd, e0, ec, eo])]; simp only [Sem.run_bind, Sem.run_pure, Result.andThen_ok, show _ = _ from hrun]; try rfl) fun F10 => ?_
      refine lyp F10 rfl HC5 rfl (by omega) (wanted_none rfl) (v := Value.pointer (some ⟨rb, 0, none⟩)) (fun wr hwr => by simp only [execOp, (F10.eval 33 (by omega)).trans (show _ = Value.pointer (some ⟨rb, 0, none⟩) from by simp [upd, e0, ec, eo])]; simp [go_sem]) fun F11 => ?_
      refine lyp F11 rfl HC5 rfl (by omega) (wanted_none rfl) (v := Value.pointer (some ⟨rb, 4, none⟩)) (fun wr hwr => by simp only [execOp, (F11.eval 43 (by omega)).trans (show _ = Value.pointer (some ⟨rb, 0, none⟩) from by simp [upd, e0, ec, eo])]; simp [go_sem]) fun F12 => ?_
      refine lst rfl HC5 rfl (wanted_none rfl) (w1 := w5.setCell ⟨rb, 4, none⟩ (.slice ao5 (WL.length + 1) cap5)) (by simp only [execOp, (F12.eval 44 (by omega)).trans (show _ = Value.pointer (some ⟨rb, 4, none⟩) from by simp [upd, e0, ec, eo]), (F12.eval 42 (by omega)).trans (show _ = Value.slice ao5 (WL.length + 1) cap5 from by simp [upd, e0, ec, eo])]; simp [go_sem, hf5, hz5]) ?_
      refine ⟨fun h => by omega, ?_⟩
      clear F0 F1 F2 F3 F4 F5 F6 F7 F8 F9 F10 F11 F12 e0 ec eo HCC HC1 HC5 hBr hBc hBo hal hr5 hc5 ho5' hz5 hf5 nk hrun
      simp only [Act.put, List.setIfInBounds_toArray, List.set_cons_succ, List.set_cons_zero]

      have HPO : Hid (RPost B rb kl wl me rep per KL (WL ++ [((cs, ci), ⟨k, n, a, b⟩)]) w (w5.setCell ⟨rb, 4, none⟩ (.slice ao5 (WL.length + 1) cap5))) := show RPost B rb kl wl me rep per KL (WL ++ [((cs, ci), ⟨k, n, a, b⟩)]) w (w5.setCell ⟨rb, 4, none⟩ (.slice ao5 (WL.length + 1) cap5)) from RPost.ofW (WL' := WL ++ [((cs, ci), ⟨k, n, a, b⟩)]) HT.out (show Below w.heap.size w ({ wr with drawn := wr.drawn + 1 } : World) from HBE.out.drew) (by rw [HWV.out]; exact hg5) (by rw [List.length_append]; exact ho5)
      clear ho5 hg5
      go_wp2_with fail
      go_ret
      have hnx : askNext WL (cs, ci) ⟨k, n, a, b⟩ = WL ++ [((cs, ci), ⟨k, n, a, b⟩)] := by unfold askNext; rw [HCD.out, if_pos rfl]
      rw [HCD.out, hnx]
      exact ⟨rfl, HPO.out⟩
end Go.Proofs.Ytbjlaloofpdbfaa
