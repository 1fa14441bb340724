import Derived.Test.YtkdndfdofhnagaaDoorAlive
namespace Go.Proofs.YtkdndfdofhnagaaDoor
open Go.RowKit Go.PlainAid
set_option linter.unusedVariables false
set_option linter.unusedSimpArgs false
set_option linter.unusedSectionVars false
set_option maxRecDepth 100000 in
theorem slot_any (x : Int) (n : Nat) (hn : 0 < n) (hb : n ≤ 17179869184) (w : World) : Calls Tryd.prog 14 #[.int .i64 x, .int .i64 n] w fun r w' => r = .returned (.int .i64 (x % n)) ∧ w' = w := by
  obtain ⟨t1, t2, t3, t4⟩ := tmod_fix x n hn
  have hn0 : ¬ (n : Int) = 0 := by omega
  by_cases hneg : x.tmod n < 0
  · have t5 := t1 hneg
    have hw : IntKind.i64.wrap (x.tmod n + n) = x % n := by rw [t5, IntKind.wrap_i64]; omega
    clear t1 t2 t5
    generalize x % (n : Int) = y at *
    go_enter Tryd.func14, Tryd.ntmps14
    go_wp2
    go_ret
    exact ⟨rfl, rfl⟩
  · have t5 := t2 hneg
    rw [← t5]
    clear t1 t2 t5
    go_enter Tryd.func14, Tryd.ntmps14
    go_wp2
    go_ret
    exact ⟨rfl, rfl⟩
def bB (k : Nat) : BS := ⟨0, 16, k, []⟩
def bH (k : Nat) (am du : Int) : BS := ⟨0, 16, k + 1, [⟨k + 1, am, du⟩]⟩
def sB (g : Int) : LS := ⟨549755813888 - g, g, 0, 1099511627776, 0⟩
def sH (g am : Int) : LS := ⟨549755813888 - g - am, g, am, 1099511627776, 0⟩
theorem bB_ok (k : Nat) : (bB k).Ok := ⟨(show (0 : Int) ≤ 0 by decide), (show (0 : Int) < 16 by decide), (show (16 : Int) ≤ 16 by decide), by simp [bB], by simp [bB], by simp [bB], fun x hx => by simp [bB] at hx⟩
theorem bH_ok (k : Nat) {am du : Int} (h1 : 1 ≤ am) (h2 : am ≤ 17179869184) : (bH k am du).Ok := ⟨(show (0 : Int) ≤ 0 by decide), (show (0 : Int) < 16 by decide), (show (16 : Int) ≤ 16 by decide), by simp [bH], by simp [bH]; omega, by simp [bH], fun x hx => by simp [bH] at hx ⊢; subst hx; simp; omega⟩
theorem sB_ok {g : Int} (h1 : 0 ≤ g) (h2 : g ≤ 274877906944) : (sB g).Ok := ⟨by simp [sB]; omega, h1, by simp [sB], by simp [sB], by simp [sB], by simp [sB]⟩
theorem sH_ok {g am : Int} (h1 : 0 ≤ g) (h2 : g ≤ 274877906944) (h3 : 1 ≤ am) (h4 : am ≤ 17179869184) : (sH g am).Ok := ⟨by simp [sH]; omega, h1, by simp [sH]; omega, by simp [sH]; omega, by simp [sH], by simp [sH]⟩
section
variable {k : Nat} {g am du : Int} (h1 : 0 ≤ g) (h2 : g ≤ 274877906944) (h3 : 1 ≤ am) (h4 : am ≤ 17179869184)
include h1 h2 h3 h4
theorem okA : okAmt am = true := by simp [okAmt]; omega
theorem tH : (sB g).tcode 0 am = 0 := by
  have := okA h1 h2 h3 h4
  simp only [LS.tcode, this, if_true, LS.get, sB]
  rw [if_neg (by omega)]
theorem hold_c : (bB k).hcode (sB g) am = 0 := by
  have := okA h1 h2 h3 h4
  simp [BS.hcode, this, tH h1 h2 h3 h4, bB]
theorem hold_n : (bB k).hnum (sB g) am = ((k : Int) + 1) * 16 := by
  unfold BS.hnum
  rw [hold_c h1 h2 h3 h4]
  simp [bB]
theorem hold_b : (bB k).hnext (sB g) am du = bH k am du := by
  unfold BS.hnext
  rw [hold_c h1 h2 h3 h4]
  simp [bB, bH]
theorem hold_s : (bB k).hlnext (sB g) am = sH g am := by
  unfold BS.hlnext LS.tnext
  rw [hold_c h1 h2 h3 h4, tH h1 h2 h3 h4]
  simp [LS.mv, LS.put, LS.get, sB, sH]
theorem tF : (sH g am).tcode 2 am = 0 := by
  have := okA h1 h2 h3 h4
  unfold LS.tcode
  rw [if_pos this]
  simp [LS.get, sH]
theorem end_hit : (bH k am du).hit (((k : Int) + 1) * 16) = ⟨k + 1, am, du⟩ := by
  have : ((k : Int) + 1) * 16 / 16 = k + 1 := by omega
  simp [BS.hit, look, bH, this]
theorem end_c : (bH k am du).ecode (sH g am) (((k : Int) + 1) * 16) = 0 := by
  have e1 : ((k : Int) + 1) * 16 / 16 = k + 1 := by omega
  have e2 : ((k : Int) + 1) * 16 % 16 = 0 := by omega
  have hl : look (((k : Int) + 1) * 16 / 16) (bH k am du).L = some ⟨k + 1, am, du⟩ := by rw [e1]; simp [look, bH]
  rw [BS.e_some _ _ _ ⟨k + 1, am, du⟩ e2 hl]
  exact tF h1 h2 h3 h4
theorem end_a : (bH k am du).eamt (sH g am) (((k : Int) + 1) * 16) = am := by
  unfold BS.eamt
  rw [end_c h1 h2 h3 h4, end_hit h1 h2 h3 h4]
  rfl
theorem end_b : (bH k am du).enext (sH g am) (((k : Int) + 1) * 16) = bB (k + 1) := by
  have e1 : ((k : Int) + 1) * 16 / 16 = k + 1 := by omega
  unfold BS.enext
  rw [end_c h1 h2 h3 h4, e1]
  simp [bB, bH, rm]
theorem end_s0 : (bH k am du).elnext (sH g am) 0 (((k : Int) + 1) * 16) = sB g := by
  unfold BS.elnext
  rw [end_c h1 h2 h3 h4, end_hit h1 h2 h3 h4]
  unfold LS.tnext
  simp only [tF h1 h2 h3 h4, if_true]
  simp [LS.mv, LS.put, LS.get, sB, sH]
theorem end_s1 : (bH k am du).elnext (sH g am) 1 (((k : Int) + 1) * 16) = sB (g + am) := by
  unfold BS.elnext
  rw [end_c h1 h2 h3 h4, end_hit h1 h2 h3 h4]
  unfold LS.tnext
  simp only [tF h1 h2 h3 h4, if_true]
  simp [LS.mv, LS.put, LS.get, sB, sH]
  omega
theorem exp_x (i : Int) : xrun i (sH g am) [⟨k + 1, am, i⟩] = ⟨sB g, [], [⟨k + 1, am, i⟩]⟩ := by
  have hx : xhit i ⟨sH g am, [], []⟩ ⟨k + 1, am, i⟩ = true := by simp [xhit, tF h1 h2 h3 h4]
  simp only [xrun, List.foldl_cons, List.foldl_nil, xstep, hx, cond_true, List.nil_append]
  unfold LS.tnext
  simp only [tF h1 h2 h3 h4, if_true]
  simp [LS.mv, LS.put, LS.get, sB, sH]
end
/-- The law's book and ledger: k were made, none is there, gone is committed. -/
structure BkS (S : Sens) (hb mb lb : Nat) (b : BS) (s : LS) (w wr : World) : Prop where
  sen : Sen S w.heap.size wr
  bk : Bk hb mb b wr
  led : Blk wr lb s.cs 71
  bel : Below w.heap.size w wr
  lo : w.heap.size ≤ hb ∧ w.heap.size ≤ mb ∧ w.heap.size ≤ lb
section
variable {S : Sens} {hb mb lb : Nat} {b b' : BS} {s s' : LS} {w wr w2 : World}
theorem BkS.more (h : BkS S hb mb lb b s w wr) (hb2 : Below wr.heap.size wr w2) : BkS S hb mb lb b s w w2 :=
  ⟨h.sen.below (hb2.mono h.bel.size), h.bk.keep (Chg.ofBelow (fun _ => False) hb2) (by simp) (by simp), h.led.below hb2 h.led.lt, h.bel.trans (hb2.mono h.bel.size), h.lo⟩
theorem BkS.step (h : BkS S hb mb lb b s w wr) (hc : Chg (fun k => k = hb ∨ k = mb ∨ k = lb) wr w2) (hB : Bk hb mb b' w2) (hl : Blk w2 lb s'.cs 71) : BkS S hb mb lb b' s' w w2 := by
  have hx : Below w.heap.size wr w2 := hc.below h.bel.size (fun k e => by rcases e with rfl | rfl | rfl; exact h.lo.1; exact h.lo.2.1; exact h.lo.2.2)
  exact ⟨h.sen.below hx, hB, hl, h.bel.trans hx, h.lo⟩
end
end Go.Proofs.YtkdndfdofhnagaaDoor
