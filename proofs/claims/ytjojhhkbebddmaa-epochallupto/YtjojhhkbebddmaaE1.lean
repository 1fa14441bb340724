import Derived.Test.YtjojhhkbebddmaaE0
namespace Go.Proofs.Ytjojhhkbebddmaa
open Go.RowKit Go.PlainAid
set_option linter.unusedVariables false
set_option linter.unusedSimpArgs false
set_option maxRecDepth 100000 in
set_option maxHeartbeats 1600000 in
theorem isCount_any (a : Int) (w : World) : Calls Try.prog 57 #[.int .i64 a] w fun e w' => e = .returned (.bool (decide (0 ≤ a ∧ a ≤ 1099511627776))) ∧ w' = w := by
  by_cases h0 : 0 ≤ a
  · by_cases h1 : a ≤ 1099511627776
    · go_enter Try.func57, Try.ntmps57
      go_wp2_with fail
      go_ret
      exact ⟨by simp [h0, h1], rfl⟩
    · go_enter Try.func57, Try.ntmps57
      go_wp2_with fail
      go_ret
      exact ⟨by simp [h0, h1], rfl⟩
  · have h0' : a < 0 := by omega
    go_enter Try.func57, Try.ntmps57
    go_wp2_with fail
    go_ret
    exact ⟨by simp; omega, rfl⟩
theorem bcell {W w1 : World} (hb : Below W.heap.size W w1) : (∀ b o, b < W.heap.size → w1.cell? ⟨b, o, none⟩ = W.cell? ⟨b, o, none⟩) ∧ (∀ b o, b < W.heap.size → w1.frozen? ⟨b, o, none⟩ = W.frozen? ⟨b, o, none⟩) :=
  ⟨fun b o h => hb.cell (p := ⟨b, o, none⟩) h, fun b o h => hb.frozen (p := ⟨b, o, none⟩) h⟩
theorem Blk.set2 {w : World} {g : Nat} {a b : Value} {T : TypeId} (h : Blk w g #[a, b] T) (c d : Value) : Blk ((w.setCell ⟨g, 0, none⟩ c).setCell ⟨g, 1, none⟩ d) g #[c, d] T := (h.set 0 c).set 1 d
theorem Blk.oth {w : World} {g k j : Nat} {C : Array Value} {T : TypeId} (h : Blk w g C T) (hn : g ≠ k) (c : Value) : Blk (w.setCell ⟨k, j, none⟩ c) g C T := (setCell_chg w k j c).blk h hn
theorem Blk.oth2 {w : World} {g k i j : Nat} {C : Array Value} {T : TypeId} (h : Blk w g C T) (hn : g ≠ k) (c d : Value) : Blk ((w.setCell ⟨k, i, none⟩ c).setCell ⟨k, j, none⟩ d) g C T := (h.oth hn c).oth hn d
theorem Blk.allc {w : World} {g : Nat} {C : Array Value} {T : TypeId} (h : Blk w g C T) (o : Obj) : Blk (w.alloc o) g C T := (Below.heap_alloc _ _ _ h.lt).trans h
theorem Blk.up {w w' : World} {g : Nat} {C : Array Value} {T : TypeId} (h : Blk w g C T) (hb : Below w.heap.size w w') : Blk w' g C T := h.below hb h.lt
theorem bset2 {L : Nat} {w w' : World} {k i j : Nat} (h : Below L w w') (hk : L ≤ k) (c d : Value) : Below L w ((w'.setCell ⟨k, i, none⟩ c).setCell ⟨k, j, none⟩ d) := (h.setCell hk c).setCell hk d
theorem bal {L : Nat} {w w' : World} (h : Below L w w') (hl : L ≤ w.heap.size) (o : Obj) : Below L w (w'.alloc o) := h.alloc (Nat.le_trans hl h.size) o
theorem bgo {L : Nat} {w w1 w2 : World} (h : Below L w w1) (k : Below w1.heap.size w1 w2) (hl : L ≤ w.heap.size) : Below L w w2 := h.trans (k.mono (Nat.le_trans hl h.size))
theorem ep_store (w : World) (a b c d : Int) (n : Nat) : Blk ((((w.alloc (.cells #[.int .i64 a, .int .i64 b] 49)).drewN n).setCell ⟨w.heap.size, 0, none⟩ (.int .i64 c)).setCell ⟨w.heap.size, 1, none⟩ (.int .i64 d)) w.heap.size #[.int .i64 c, .int .i64 d] 49 := by
  have h : Blk ((w.alloc (.cells #[.int .i64 a, .int .i64 b] 49)).drewN n) w.heap.size #[.int .i64 a, .int .i64 b] 49 := heap_alloc_new w _
  exact (h.set 0 _).set 1 _
theorem ep_below (w : World) (a b c d : Int) (n : Nat) : Below w.heap.size w ((((w.alloc (.cells #[.int .i64 a, .int .i64 b] 49)).drewN n).setCell ⟨w.heap.size, 0, none⟩ (.int .i64 c)).setCell ⟨w.heap.size, 1, none⟩ (.int .i64 d)) :=
  ((below_drewN ((Below.refl _ _).alloc (Nat.le_refl _) _) n).setCell (Nat.le_refl _) _).setCell (Nat.le_refl _) _
theorem end_ep {f : Func} {tm : Array Value} {w2 : World} {g p : Nat} {c d : Int} {R : Ending → World → Prop} (hf : f.results = #[.cell p 49]) (hp : tm.getD p undef = .pointer (some ⟨g, 0, none⟩)) (hB : Blk w2 g #[.int .i64 c, .int .i64 d] 49) (h : R (.returned (epV ⟨c, d⟩)) w2) : bodyPost Try.prog f R .ret { tmps := tm, defers := [] } w2 :=
  ⟨rfl, _, results_cell_row hf tm w2 g 49 _ (0, 0) _ hp hB Try.underlying49 rfl isz49, h⟩
set_option maxRecDepth 100000 in
set_option maxHeartbeats 1600000 in
theorem live_any {L mb cb : Nat} {x : EV} {A : List Ac} (r : Nat) (w : World) (h : MM L mb cb x A w) (hr : r < 16) : Calls Try.prog 43 #[.pointer (some ⟨mb, 0, none⟩), .int .i64 (r : Int)] w fun e w' => e = .returned (epV (liveE x r)) ∧ Below w.heap.size w w' := by
  have ck := h.ckn hr
  have cf := h.cfi hr
  have hm := h.b.lt
  clear h
  unfold liveE
  by_cases he : x.kn r = x.fi r
  · rw [if_pos he]
    go_enter Try.func43, Try.ntmps43
    go_wp2
    go_quiet (fail)
    go_wp2
    exact end_ep Try.results43 rfl (ep_store _ _ _ _ _ _) ⟨rfl, ep_below _ _ _ _ _ _⟩
  · rw [if_neg he]
    go_enter Try.func43, Try.ntmps43
    go_wp2
    go_quiet (fail)
    go_wp2
    exact end_ep Try.results43 rfl (ep_store _ _ _ _ _ _) ⟨rfl, ep_below _ _ _ _ _ _⟩
set_option maxRecDepth 100000 in
set_option maxHeartbeats 1600000 in
theorem isNone_any (a b : Int) (w : World) : Calls Try.prog 34 #[.agg #[.int .i64 a, .int .i64 b]] w fun e w' => e = .returned (.bool (decide ((⟨a, b⟩ : Ep) = e0))) ∧ Below w.heap.size w w' := by
  have hd : decide ((⟨a, b⟩ : Ep) = e0) = (a == 0 && b == 0) := by
    rw [Bool.eq_iff_iff]; simp [e0]
  rw [hd]
  by_cases ha : a = 0
  · subst ha
    by_cases hb : b = 0
    · subst hb
      go_enter Try.func34, Try.ntmps34
      go_wp2
      go_ret
      exact ⟨rfl, (Below.refl _ _).alloc (Nat.le_refl _) _⟩
    · have hb' : (b == 0) = false := by simpa using hb
      rw [hb']
      go_enter Try.func34, Try.ntmps34
      go_wp2
      go_ret
      exact ⟨rfl, (Below.refl _ _).alloc (Nat.le_refl _) _⟩
  · have ha' : (a == 0) = false := by simpa using ha
    rw [ha']
    go_enter Try.func34, Try.ntmps34
    go_wp2
    go_ret
    exact ⟨rfl, (Below.refl _ _).alloc (Nat.le_refl _) _⟩
def higher (e t : Ep) : Bool := decide (t.r < e.r) || (e.r == t.r && decide (t.k < e.k))
set_option maxRecDepth 100000 in
set_option maxHeartbeats 1600000 in
theorem isHigher_any (a b c d : Int) (w : World) : Calls Try.prog 60 #[.agg #[.int .i64 a, .int .i64 b], .agg #[.int .i64 c, .int .i64 d]] w fun e w' => e = .returned (.bool (higher ⟨a, b⟩ ⟨c, d⟩)) ∧ Below w.heap.size w w' := by
  unfold higher
  simp only
  by_cases h1 : c < a
  · have h1' : decide (c < a) = true := by simpa using h1
    rw [h1']
    go_enter Try.func60, Try.ntmps60
    go_wp2
    go_ret
    exact ⟨rfl, ((Below.refl _ _).alloc (Nat.le_refl _) _).alloc (by simp) _⟩
  · have h1' : decide (c < a) = false := by simpa using h1
    rw [h1']
    by_cases h2 : a = c
    · have h2' : (a == c) = true := by simpa using h2
      rw [h2']
      subst h2
      by_cases h3 : d < b
      · have h3' : decide (d < b) = true := by simpa using h3
        rw [h3']
        go_enter Try.func60, Try.ntmps60
        go_wp2
        go_ret
        exact ⟨rfl, ((Below.refl _ _).alloc (Nat.le_refl _) _).alloc (by simp) _⟩
      · have h3' : decide (d < b) = false := by simpa using h3
        rw [h3']
        go_enter Try.func60, Try.ntmps60
        go_wp2
        go_ret
        exact ⟨rfl, ((Below.refl _ _).alloc (Nat.le_refl _) _).alloc (by simp) _⟩
    · have h2' : (a == c) = false := by simpa using h2
      rw [h2']
      go_enter Try.func60, Try.ntmps60
      go_wp2
      go_ret
      exact ⟨rfl, ((Below.refl _ _).alloc (Nat.le_refl _) _).alloc (by simp) _⟩
set_option maxRecDepth 100000 in
set_option maxHeartbeats 1600000 in
theorem isPeer_any {L mb cb : Nat} {x : EV} {A : List Ac} (r : Int) (w : World) (h : MM L mb cb x A w) : Calls Try.prog 64 #[.pointer (some ⟨mb, 0, none⟩), .int .i64 r] w fun e w' => e = .returned (.bool (decide (0 ≤ r ∧ r < x.n ∧ r ≠ x.me))) ∧ w' = w := by
  have c0 := h.c0
  have c1 := h.c1
  clear h
  by_cases h1 : 0 ≤ r
  · by_cases h2 : r < x.n
    · have e : decide (0 ≤ r ∧ r < x.n ∧ r ≠ x.me) = (r != (x.me : Int)) := by
        rw [Bool.eq_iff_iff]
        simp [h1, h2]
      rw [e]
      go_enter Try.func64, Try.ntmps64
      go_wp2
      go_ret
      exact ⟨rfl, rfl⟩
    · have e : decide (0 ≤ r ∧ r < x.n ∧ r ≠ x.me) = false := by simp; omega
      rw [e]
      go_enter Try.func64, Try.ntmps64
      go_wp2
      go_ret
      exact ⟨rfl, rfl⟩
  · have e : decide (0 ≤ r ∧ r < x.n ∧ r ≠ x.me) = false := by simp; omega
    rw [e]
    have h1' : r < 0 := by omega
    go_enter Try.func64, Try.ntmps64
    go_wp2
    go_ret
    exact ⟨rfl, rfl⟩
def other (x : EV) (e : Ep) : Bool := decide (1 ≤ e.r ∧ e.r ≤ 1099511627776 ∧ 0 ≤ e.k ∧ e.k < x.n ∧ e.k ≠ x.me)
set_option maxRecDepth 100000 in
set_option maxHeartbeats 1600000 in
theorem isOther_any {L mb cb : Nat} {x : EV} {A : List Ac} (a b : Int) (w : World) (h : MM L mb cb x A w) : Calls Try.prog 61 #[.pointer (some ⟨mb, 0, none⟩), .agg #[.int .i64 a, .int .i64 b]] w fun e w' => e = .returned (.bool (other x ⟨a, b⟩)) ∧ Below w.heap.size w w' := by
  unfold other
  simp only
  have HP : Hid (∀ W, Below w.heap.size w W → Calls Try.prog 64 #[.pointer (some ⟨mb, 0, none⟩), .int .i64 b] W fun e w' => e = .returned (.bool (decide (0 ≤ b ∧ b < x.n ∧ b ≠ x.me))) ∧ w' = W) := fun W hW => isPeer_any b W (h.more hW)
  clear h
  by_cases h1 : 1 ≤ a
  · by_cases h2 : a ≤ 1099511627776
    · have e : decide (1 ≤ a ∧ a ≤ 1099511627776 ∧ 0 ≤ b ∧ b < x.n ∧ b ≠ x.me) = decide (0 ≤ b ∧ b < x.n ∧ b ≠ x.me) := by simp [h1, h2]
      rw [e]
      generalize decide (0 ≤ b ∧ b < x.n ∧ b ≠ x.me) = q at *
      go_enter Try.func61, Try.ntmps61
      go_wp2_with (go_at_call 64; refine (HP.out _ ((Below.refl _ _).alloc (Nat.le_refl _) _)).mono ?_; rintro e w' ⟨rfl, rfl⟩)
      go_ret
      exact ⟨rfl, (Below.refl _ _).alloc (Nat.le_refl _) _⟩
    · have e : decide (1 ≤ a ∧ a ≤ 1099511627776 ∧ 0 ≤ b ∧ b < x.n ∧ b ≠ x.me) = false := by simp; omega
      rw [e]
      go_enter Try.func61, Try.ntmps61
      go_wp2
      go_ret
      exact ⟨rfl, (Below.refl _ _).alloc (Nat.le_refl _) _⟩
  · have e : decide (1 ≤ a ∧ a ≤ 1099511627776 ∧ 0 ≤ b ∧ b < x.n ∧ b ≠ x.me) = false := by simp; omega
    rw [e]
    go_enter Try.func61, Try.ntmps61
    go_wp2
    go_ret
    exact ⟨rfl, (Below.refl _ _).alloc (Nat.le_refl _) _⟩
set_option maxRecDepth 100000 in
set_option maxHeartbeats 1600000 in
theorem own_any {L mb cb : Nat} {x : EV} {A : List Ac} (w : World) (h : MM L mb cb x A w) (hr : x.me < 16) : Calls Try.prog 22 #[.pointer (some ⟨mb, 0, none⟩)] w fun e w' => e = .returned (epV (liveE x x.me)) ∧ Below w.heap.size w w' := by
  have c0 := h.c0
  have HL : Hid (∀ W, Below w.heap.size w W → Calls Try.prog 43 #[.pointer (some ⟨mb, 0, none⟩), .int .i64 (x.me : Int)] W fun e w' => e = .returned (epV (liveE x x.me)) ∧ Below W.heap.size W w') := fun W hW => live_any x.me W (h.more hW) hr
  have hm := h.b.lt
  clear h
  generalize liveE x x.me = E at *
  obtain ⟨er, ek⟩ := E
  unfold epV at *
  go_enter Try.func22, Try.ntmps22
  go_wp2_with (go_at_call 43; refine (HL.out _ ((Below.refl _ _).alloc (Nat.le_refl _) _)).mono ?_; rintro e w1 ⟨rfl, hb1⟩; obtain ⟨hc1, hf1⟩ := bcell hb1)
  have hB : Blk (w.alloc (.cells #[.int .i64 0, .int .i64 0] 49)) w.heap.size #[.int .i64 0, .int .i64 0] 49 := heap_alloc_new w _
  have hz : w.heap.size < (w.alloc (.cells #[.int .i64 0, .int .i64 0] 49)).heap.size := by simp
  exact end_ep Try.results22 rfl (((Blk.below hB hb1 hz).set 0 _).set 1 _) ⟨rfl, ((((Below.refl _ _).alloc (Nat.le_refl _) _).trans (hb1.mono (by simp))).setCell (Nat.le_refl _) _).setCell (Nat.le_refl _) _⟩
end Go.Proofs.Ytjojhhkbebddmaa
