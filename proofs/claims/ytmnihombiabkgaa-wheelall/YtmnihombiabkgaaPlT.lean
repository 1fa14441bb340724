import Derived.Test.YtmnihombiabkgaaWh
namespace Go.Proofs.Ytmnihombiabkgaa
open Go.RowKit Go.PlainAid
set_option linter.unusedVariables false
set_option linter.unusedSimpArgs false
/-- A keep, by what it does. -/
structure Keeper (σ : Type) (L kb : Nat) where
  Inv : σ → World → Prop
  bl : σ → Nat → Prop
  cnt : σ → Nat
  lt : ∀ {s w k}, Inv s w → bl s k → L ≤ k ∧ k < w.heap.size
  low : ∀ {s w}, Inv s w → L ≤ w.heap.size
  frame : ∀ {s w w2} {B : Nat → Prop}, Inv s w → Chg B w w2 → (∀ k, bl s k → ¬ B k) → Inv s w2
  put : ∀ {s w l} {zs : List Tm}, Inv s w → w.ownsRow L 50 4 l zs.length (flatT zs) → (∀ g, l.ownBlock = some g → ¬ bl s g) → zs.length ≤ 1000 → cnt s ≤ 10000 →
    Calls Try.prog 41 #[.pointer (some ⟨kb, 0, none⟩), l] w fun r w' => r = .returned (.tuple #[]) ∧ ∃ s', Inv s' w' ∧ cnt s' ≤ cnt s + 18 ∧ Chg (fun k => bl s k ∨ l.ownBlock = some k) w w' ∧ ∀ k, bl s' k → bl s k ∨ l.ownBlock = some k ∨ w.heap.size ≤ k
  whole : ∀ {s w}, Inv s w → cnt s ≤ 10000 → Calls Try.prog 29 #[.pointer (some ⟨kb, 0, none⟩)] w fun r w' => r = .returned (.bool true) ∧ Chg (bl s) w w'
structure ES where
  vI : Value
  vM : Value
  e : List Ent
/-- The keep that writes over at once. -/
def early (L kb : Nat) : Keeper ES L kb where
  Inv s w := KE L kb s.vI s.vM s.e s.e w
  bl s := KB kb s.vI s.vM s.e
  cnt s := s.e.length
  lt h hk := h.lt hk
  low h := Nat.le_trans h.lk (Nat.le_of_lt h.blk.lt)
  frame h hc hB := h.frame hc hB
  put {s w l zs} h hl hap hn hc := (put_early w h hl rfl hap (by omega) (by omega)).mono fun r w' ⟨h0, v1, v2, es, h1, h2, h3, h4⟩ => ⟨h0, ⟨v1, v2, es⟩, h1, h2, h3, h4⟩
  whole {s w} h hc := (whole_early w h (by omega)).mono fun r w' ⟨h0, h1⟩ => ⟨h0, Chg.ofBelow _ h1⟩
/-- The pair and the keep, apart. -/
structure PS {σ : Type} (L kb : Nat) (K : Keeper σ L kb) (a : HD) (rbase rb : Nat) (W : World) (sw sr : WV) (va : List Value) (v : Value) (s : σ) (wr : World) : Prop where
  hw : a.ok sw va wr
  hr : RW rbase rb sr v wr
  hk : K.Inv s wr
  dwr : ∀ k, a.own va k → ¬ rown rb v k
  dwk : ∀ k, a.own va k → ¬ K.bl s k
  drk : ∀ k, rown rb v k → ¬ K.bl s k
  la : L ≤ a.base ∧ L ≤ rbase
  bl : Below L W wr
section
variable {σ : Type} {L kb : Nat} {K : Keeper σ L kb} {a : HD} {rbase rb : Nat} {W : World} {sw sr sw' sr' : WV} {va va' : List Value} {v v' l : Value} {s s' : σ} {wr w' : World}
theorem PS.lo (h : PS L kb K a rbase rb W sw sr va v s wr) : L ≤ wr.heap.size := K.low h.hk
theorem PS.more (h : PS L kb K a rbase rb W sw sr va v s wr) (hm : Below wr.heap.size wr w') : PS L kb K a rbase rb W sw sr va v s w' :=
  ⟨HD.keep h.hw (Chg.ofBelow (fun _ => False) hm) (fun _ _ e => e), h.hr.more hm, K.frame h.hk (Chg.ofBelow (fun _ => False) hm) (fun _ _ e => e), h.dwr, h.dwk, h.drk, h.la, h.bl.trans (hm.mono h.lo)⟩
theorem PS.setW (h : PS L kb K a rbase rb W sw sr va v s wr) (hw : a.ok sw' va' w') (hs : WStp a.whb a.mp va va' wr w') : PS L kb K a rbase rb W sw' sr va' v s w' := by
  refine ⟨hw, h.hr.keep hs.1 (fun k h1 h2 => h.dwr k h2 h1), K.frame h.hk hs.1 (fun k h1 h2 => h.dwk k h2 h1), fun k h1 h2 => ?_, fun k h1 h2 => ?_, h.drk, h.la, h.bl.trans (hs.1.below h.lo (fun k hk => Nat.le_trans h.la.1 (HD.lt h.hw hk).1))⟩
  · rcases hs.2 k h1 with h3 | h3
    · exact h.dwr k h3 h2
    · have := (h.hr.lt h2).2; omega
  · rcases hs.2 k h1 with h3 | h3
    · exact h.dwk k h3 h2
    · have := (K.lt h.hk h2).2; omega
theorem PS.setR (h : PS L kb K a rbase rb W sw sr va v s wr) (hr : RW rbase rb sr' v' w') (hs : RStp rb v v' wr w') : PS L kb K a rbase rb W sw sr' va v' s w' := by
  refine ⟨HD.keep h.hw hs.1 (fun k h1 h2 => h.dwr k h1 h2), hr, K.frame h.hk hs.1 (fun k h1 h2 => h.drk k h2 h1), fun k h1 h2 => ?_, h.dwk, fun k h1 h2 => ?_, h.la, h.bl.trans (hs.1.below h.lo (fun k hk => Nat.le_trans h.la.2 (h.hr.lt hk).1))⟩
  · rcases hs.2 k h2 with h3 | h3
    · exact h.dwr k h1 h3
    · have := (HD.lt h.hw h1).2; omega
  · rcases hs.2 k h1 with h3 | h3
    · exact h.drk k h3 h2
    · have := (K.lt h.hk h2).2; omega
theorem PS.setK (h : PS L kb K a rbase rb W sw sr va v s wr) (hl : ∀ k, l.ownBlock = some k → L ≤ k ∧ ¬ a.own va k ∧ ¬ rown rb v k) (hk : K.Inv s' w') (hc : Chg (fun k => K.bl s k ∨ l.ownBlock = some k) wr w') (hb : ∀ k, K.bl s' k → K.bl s k ∨ l.ownBlock = some k ∨ wr.heap.size ≤ k) : PS L kb K a rbase rb W sw sr va v s' w' := by
  refine ⟨HD.keep h.hw hc (fun k h1 h2 => ?_), h.hr.keep hc (fun k h1 h2 => ?_), hk, h.dwr, fun k h1 h2 => ?_, fun k h1 h2 => ?_, h.la, h.bl.trans (hc.below h.lo (fun k hk => ?_))⟩
  · rcases h2 with h2 | h2
    · exact h.dwk k h1 h2
    · exact (hl k h2).2.1 h1
  · rcases h2 with h2 | h2
    · exact h.drk k h1 h2
    · exact (hl k h2).2.2 h1
  · rcases hb k h2 with h3 | h3 | h3
    · exact h.dwk k h1 h3
    · exact (hl k h3).2.1 h1
    · have := (HD.lt h.hw h1).2; omega
  · rcases hb k h2 with h3 | h3 | h3
    · exact h.drk k h1 h3
    · exact (hl k h3).2.2 h1
    · have := (h.hr.lt h1).2; omega
  · rcases hk with hk | hk
    · exact (K.lt h.hk hk).1
    · exact (hl k hk).1
end
end Go.Proofs.Ytmnihombiabkgaa
