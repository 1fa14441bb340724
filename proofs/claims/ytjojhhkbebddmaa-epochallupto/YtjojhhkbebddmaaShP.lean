import Derived.Test.YtjojhhkbebddmaaShP0
import Derived.Test.YtjojhhkbebddmaaShHA
import Derived.Test.YtjojhhkbebddmaaShHE
namespace Go.Proofs.Ytjojhhkbebddmaa
open Go.RowKit Go.PlainAid
set_option linter.unusedVariables false
set_option linter.unusedSimpArgs false
set_option maxRecDepth 100000 in
set_option maxHeartbeats 1600000 in
/-- An answer is kept: written over at once, and grown. -/
theorem putA_any {L kb n : Nat} {s : ES} {l : Value} {xs : List Value} (w : World) (hK : KE L kb s w) (hl : w.ownsRow L 56 6 l n xs) (hap : ∀ g, l.ownBlock = some g → ¬ KB kb s g) (hn : n ≤ 1000000) (hel : s.e.length ≤ 1000000000000) :
    Calls Try.prog 54 #[.pointer (some ⟨kb, 0, none⟩), l] w fun r w' => r = .returned (.tuple #[]) ∧ ∃ s', KE L kb s' w' ∧ s'.e.length + s'.r.length ≤ s.e.length + s.r.length + 18 ∧ Chg (fun k => KB kb s k ∨ l.ownBlock = some k) w w' ∧ ∀ k, KB kb s' k → KB kb s k ∨ l.ownBlock = some k ∨ w.heap.size ≤ k := by
  have hf := fillA_any (m := (s.e.length : Int)) w hl hn (by omega) (by omega)
  obtain ⟨mo, mc, hmm, _⟩ := own_slice hK.b.xm
  obtain ⟨lo, lc, hll, _⟩ := own_slice hl
  obtain ⟨ne, hne⟩ : ∃ ne, ne = s.e.length := ⟨_, rfl⟩
  rw [← hne] at hmm hf hel
  have c0 : w.cell? ⟨kb, 0, none⟩ = some (.bool false) := hK.blk.cell 0
  have c3 : w.cell? ⟨kb, 3, none⟩ = some (.slice mo ne mc) := by rw [← hmm]; exact hK.blk.cell 3
  have HK : Hid _ := hK
  have HAP : Hid _ := hap
  have HNE : Hid _ := hne
  clear hl hK hap hmm hne
  subst hll
  go_enter Try.func54, Try.ntmps54
  go_wp2_with fail
  refine hf.mono ?_
  rintro e w1 ⟨rfl, h1, hc1⟩
  have hK1 : KE L kb s w1 := HK.out.frame hc1 (fun k hk e => HAP.out k e hk)
  have hh := holdA_any (C := #[.bool false, s.vI, .slice none 0 0, s.vM, s.vR, .slice none 0 0, s.vN]) w1 hK1.blk rfl hK1.b h1 (fun x hx g e q => HAP.out g e (.inr (.inl (.inr (.inr ⟨x, hx, q⟩))))) hn (by omega) (by omega) (by rw [← HNE.out]; exact hel) hK1.lk
  have HC1 : Hid _ := hc1
  have HK1 : Hid _ := hK1
  have H1 : Hid _ := h1
  clear hf h1 hc1 c0 c3 hK1
  go_wp2_with fail
  refine hh.mono ?_
  rintro e w2 ⟨rfl, v1, v2, far, es', hH, hle, _⟩
  obtain ⟨a1, a2, a3⟩ := HK1.out.heldA H1.out hel hH
  have HR : Hid (∃ s', KE L kb s' w2 ∧ s'.e.length + s'.r.length ≤ s.e.length + s.r.length + 18 ∧ Chg (fun k => KB kb s k ∨ (Value.slice lo n lc).ownBlock = some k) w w2 ∧ ∀ k, KB kb s' k → KB kb s k ∨ (Value.slice lo n lc).ownBlock = some k ∨ w.heap.size ≤ k) := ⟨_, a1, by show es'.length + s.r.length ≤ _; omega, (HC1.out.mono (fun j _ e => .inr e)).trans a2 (fun j _ e => e), fun k hk => by
    have hsz := HC1.out.size
    rcases a3 k hk with q | q | q
    · exact .inl q
    · exact .inr (.inl q)
    · exact .inr (.inr (by omega))⟩
  clear hh hH a1 a2 a3
  go_wp2
  go_end0
  exact ⟨rfl, HR.out⟩
set_option maxRecDepth 100000 in
set_option maxHeartbeats 1600000 in
/-- An answer is kept: written over at once, and grown. -/
theorem putE_any {L kb n : Nat} {s : ES} {l : Value} {xs : List Value} (w : World) (hK : KE L kb s w) (hl : w.ownsRow L 49 2 l n xs) (hap : ∀ g, l.ownBlock = some g → ¬ KB kb s g) (hn : n ≤ 1000000) (hel : s.r.length ≤ 1000000000000) :
    Calls Try.prog 79 #[.pointer (some ⟨kb, 0, none⟩), l] w fun r w' => r = .returned (.tuple #[]) ∧ ∃ s', KE L kb s' w' ∧ s'.e.length + s'.r.length ≤ s.e.length + s.r.length + 18 ∧ Chg (fun k => KB kb s k ∨ l.ownBlock = some k) w w' ∧ ∀ k, KB kb s' k → KB kb s k ∨ l.ownBlock = some k ∨ w.heap.size ≤ k := by
  have hf := fillE_any (m := (s.r.length : Int)) w hl hn (by omega) (by omega)
  obtain ⟨mo, mc, hmm, _⟩ := own_slice hK.v.xm
  obtain ⟨lo, lc, hll, _⟩ := own_slice hl
  obtain ⟨ne, hne⟩ : ∃ ne, ne = s.r.length := ⟨_, rfl⟩
  rw [← hne] at hmm hf hel
  have c0 : w.cell? ⟨kb, 0, none⟩ = some (.bool false) := hK.blk.cell 0
  have c3 : w.cell? ⟨kb, 6, none⟩ = some (.slice mo ne mc) := by rw [← hmm]; exact hK.blk.cell 6
  have HK : Hid _ := hK
  have HAP : Hid _ := hap
  have HNE : Hid _ := hne
  clear hl hK hap hmm hne
  subst hll
  go_enter Try.func79, Try.ntmps79
  go_wp2_with fail
  refine hf.mono ?_
  rintro e w1 ⟨rfl, h1, hc1⟩
  have hK1 : KE L kb s w1 := HK.out.frame hc1 (fun k hk e => HAP.out k e hk)
  have hh := holdE_any (C := #[.bool false, s.vI, .slice none 0 0, s.vM, s.vR, .slice none 0 0, s.vN]) w1 hK1.blk rfl hK1.v h1 (fun x hx g e q => HAP.out g e (.inr (.inr (.inr (.inr ⟨x, hx, q⟩))))) hn (by omega) (by omega) (by rw [← HNE.out]; exact hel) hK1.lk
  have HC1 : Hid _ := hc1
  have HK1 : Hid _ := hK1
  have H1 : Hid _ := h1
  clear hf h1 hc1 c0 c3 hK1
  go_wp2_with fail
  refine hh.mono ?_
  rintro e w2 ⟨rfl, v1, v2, far, es', hH, hle, _⟩
  obtain ⟨a1, a2, a3⟩ := HK1.out.heldE H1.out hel hH
  have HR : Hid (∃ s', KE L kb s' w2 ∧ s'.e.length + s'.r.length ≤ s.e.length + s.r.length + 18 ∧ Chg (fun k => KB kb s k ∨ (Value.slice lo n lc).ownBlock = some k) w w2 ∧ ∀ k, KB kb s' k → KB kb s k ∨ (Value.slice lo n lc).ownBlock = some k ∨ w.heap.size ≤ k) := ⟨_, a1, by show s.e.length + es'.length ≤ _; omega, (HC1.out.mono (fun j _ e => .inr e)).trans a2 (fun j _ e => e), fun k hk => by
    have hsz := HC1.out.size
    rcases a3 k hk with q | q | q
    · exact .inl q
    · exact .inr (.inl q)
    · exact .inr (.inr (by omega))⟩
  clear hh hH a1 a2 a3
  go_wp2
  go_end0
  exact ⟨rfl, HR.out⟩
end Go.Proofs.Ytjojhhkbebddmaa
