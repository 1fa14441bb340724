import Derived.Test.YtboghanldbmfmabDoorApart2
import Derived.Test.YtboghanldbmfmabDoorRefSeal
import Derived.Test.YtboghanldbmfmabDoorKept2
import Derived.Test.YtboghanldbmfmabDoorStands2
namespace Go.Proofs.YtboghanldbmfmabDoor
open Go.RowKit

/-- What the document answers to Seal. -/
def sealAns (ps : List UInt8) : List UInt8 × Nat := if ps.length ≤ 4096 then (frameOf ps, 0) else ([], 2)

theorem seal_both (ao : Option Addr) (n cap : Nat) (ps : List UInt8) (w : World) (hn : ps.length = n) (hm : n ≤ 65536) (hT : Tab w) (hsrc : Src w ao ps) (bs : List UInt8) (k c : Nat) (hbs : (sealAns ps).1 = bs) (hk : bs.length = k) (hc : (sealAns ps).2 = c) :
    Calls Tryd.prog 12 #[.slice ao n cap] w fun e w' => ∃ bo, e = .returned (.tuple #[.slice bo k k, .int .i64 (c : Nat)]) ∧ Ans w' bo k bs ∧ (∀ g, (Value.slice bo k k).ownBlock = some g → w.heap.size ≤ g) ∧ Below w.heap.size w w' := by
  subst hk hbs hc
  unfold sealAns
  by_cases h : n ≤ 4096
  · rw [if_pos (by omega)]
    refine (seal_any ao n cap ps w hn h hT (fun h => hsrc (by omega))).mono ?_
    rintro e w' ⟨rfl, hR, hb⟩
    have hl := frameOf_len ps
    exact ⟨some ⟨w.heap.size, 0, none⟩, by rw [show (frameOf ps).length = n + 7 from by omega]; rfl, ⟨rfl, .inr ⟨_, rfl, hR⟩⟩, (fun g hg => by simp [Value.ownBlock] at hg; omega), hb⟩
  · rw [if_neg (by omega)]
    refine (seal_long ao n cap w (by omega) (by omega)).mono ?_
    rintro e w' ⟨rfl, rfl⟩
    exact ⟨none, rfl, ⟨rfl, .inl ⟨rfl, rfl⟩⟩, (fun g hg => by simp [Value.ownBlock] at hg), Below.refl _ _⟩

theorem refSeal_both (ao : Option Addr) (n cap : Nat) (ps : List UInt8) (w : World) (hn : ps.length = n) (hm : n ≤ 65536) (hsrc : Src w ao ps) (bs : List UInt8) (k c : Nat) (hbs : (sealAns ps).1 = bs) (hk : bs.length = k) (hc : (sealAns ps).2 = c) :
    Calls Tryd.prog 10 #[.slice ao n cap] w fun e w' => ∃ co c', e = .returned (.tuple #[.slice co k c', .int .i64 (c : Nat)]) ∧ Src w' co bs ∧ (∀ g, (Value.slice co k c').ownBlock = some g → w.heap.size ≤ g) ∧ Below w.heap.size w w' := by
  subst hk hbs hc
  unfold sealAns
  by_cases h : n ≤ 4096
  · rw [if_pos (by omega)]
    refine (refSeal_any ao n cap ps w hn h hsrc).mono ?_
    rintro e w' ⟨co, c, rfl, ho, hb⟩
    have hl := frameOf_len ps
    have hfr : ∀ g, (Value.slice co (frameOf ps).length c).ownBlock = some g → w.heap.size ≤ g := fun g hg => (ho.lt g (by cases co <;> exact hg)).1
    obtain ⟨co', c', e', _, _, hs, _⟩ := own_src ho
    cases e'
    exact ⟨co, c, by rw [show (frameOf ps).length = n + 7 from by omega]; rfl, hs, hfr, hb⟩
  · rw [if_neg (by omega)]
    refine (refSeal_long ao n cap w (by omega) (by omega)).mono ?_
    rintro e w' ⟨rfl, rfl⟩
    exact ⟨none, 0, rfl, (fun h => by cases h), (fun g hg => by simp [Value.ownBlock] at hg), Below.refl _ _⟩

theorem sealAns_len (ps : List UInt8) (h : ps.length ≤ 65536) : (sealAns ps).1.length ≤ 4103 ∧ (sealAns ps).2 ≤ 12 := by
  unfold sealAns
  split
  · have := frameOf_len ps
    exact ⟨by simp only; omega, by simp only; omega⟩
  · simp

theorem Good.snoc {fs : List (Value × List UInt8)} (h : Good fs) {ao : Option Addr} {bs : List UInt8} (hne : ∀ g, (Value.slice ao bs.length bs.length).ownBlock = some g → ∀ e ∈ fs, e.1.ownBlock ≠ some g) : Good (fs ++ [(.slice ao bs.length bs.length, bs)]) := by
  have look : ∀ (k : Nat) (e : Value × List UInt8), (fs ++ [(.slice ao bs.length bs.length, bs)])[k]? = some e → (k < fs.length ∧ fs[k]? = some e) ∨ (k = fs.length ∧ e = (.slice ao bs.length bs.length, bs)) := by
    intro k e he
    by_cases hk : k < fs.length
    · rw [List.getElem?_append_left hk] at he
      exact .inl ⟨hk, he⟩
    · rw [List.getElem?_append_right (by omega)] at he
      by_cases e0 : k - fs.length = 0
      · rw [e0] at he
        cases he
        exact .inr ⟨by omega, rfl⟩
      · rw [List.getElem?_eq_none (by simp; omega)] at he; cases he
  refine ⟨fun k e he => ?_, fun i j a b g hij ha hb hag hbg => ?_⟩
  · rcases look k e he with ⟨_, h1⟩ | ⟨_, rfl⟩
    · exact h.1 k e h1
    · exact ⟨ao, rfl⟩
  · rcases look i a ha with ⟨h1, h2⟩ | ⟨h1, rfl⟩ <;> rcases look j b hb with ⟨h3, h4⟩ | ⟨h3, rfl⟩
    · exact h.2 i j a b g hij h2 h4 hag hbg
    · exact hne g hbg a (List.mem_of_getElem? h2) hag
    · exact hne g hag b (List.mem_of_getElem? h4) hbg
    · omega

/-- Beside the shelf: the answers left alone are good, few and short. -/
structure Fine (m : Nat) (fs : List (Value × List UInt8)) : Prop where
  good : Good fs
  few : fs.length ≤ m
  short : ∀ e ∈ fs, e.2.length ≤ 100000

/-- 'keep', whichever way. -/
theorem keep_any (L s : Nat) (w : World) (m : Nat) (lv hv : Value) (ls : List (Value × List UInt8)) (lent : Option (Nat × List UInt8)) (fv wv : Value) (fs : List (Value × List UInt8))
    (ao : Option Addr) (n : Nat) (bs : List UInt8) (hS : Shelf L s w m lv hv ls lent fv wv fs) (hF : Fine m fs) (hm : m < 1000) (hll : ls.length ≤ 8) (hA : Ans w ao n bs) (hn : n ≤ 100000)
    (hL : ∀ g, (Value.slice ao n n).ownBlock = some g → L ≤ g)
    (hsep : ∀ g bs', lent = some (g, bs') → (Value.slice ao n n).ownBlock ≠ some g) (hsl : ∀ g, (Value.slice ao n n).ownBlock = some g → (∀ e ∈ ls, e.1.ownBlock ≠ some g) ∧ ∀ e ∈ fs, e.1.ownBlock ≠ some g) :
    Calls Tryd.prog 20 #[.pointer (some ⟨s, 0, none⟩), .slice ao n n] w fun e w' => e = .returned (.tuple #[]) ∧ ∃ lv' hv' ls' fv' wv' fs', ls'.length ≤ 8 ∧ Shelf L s w' (m + 1) lv' hv' ls' lent fv' wv' fs' ∧ Fine (m + 1) fs' ∧
      (∀ (k : Nat) (cur : Array Value), w.heap[k]? = some (Obj.cells cur 5 (0, 0)) → (Value.slice ao n n).ownBlock ≠ some k → w'.heap[k]? = w.heap[k]?) ∧ Below L w w' := by
  by_cases h3 : (m + 1) % 3 = 0
  · refine (keepB_any L s w m lv hv ls lent fv wv fs ao n bs hS hm h3 hll hA hn hL hsep hsl).mono ?_
    rintro e w' ⟨rfl, lv', hv', ls', hl, hS', h5, hb⟩
    exact ⟨rfl, lv', hv', ls', fv, wv, fs, hl, hS', ⟨hF.good, by have := hF.few; omega, hF.short⟩, h5, hb⟩
  · refine (keepA_any L s w m lv hv ls lent fv wv fs ao n n bs hS hm h3 (by have := hF.few; omega) (hA.ent hL) hsep).mono ?_
    rintro e w' ⟨rfl, fv', wv', hS', h5, hb⟩
    obtain ⟨rfl, _⟩ := hA
    refine ⟨rfl, lv, hv, ls, fv', wv', _, hll, hS', ⟨hF.good.snoc fun g hg => (hsl g hg).2, by have := hF.few; simp; omega, ?_⟩, fun k cur hk _ => h5 k cur hk, hb⟩
    intro e he
    rcases List.mem_append.1 he with h | h
    · exact hF.short e h
    · rw [List.mem_singleton.1 h]; exact hn
end Go.Proofs.YtboghanldbmfmabDoor
