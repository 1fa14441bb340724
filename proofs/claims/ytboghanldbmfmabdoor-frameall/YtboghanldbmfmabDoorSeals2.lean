import Derived.Test.YtboghanldbmfmabDoorKeep2
namespace Go.Proofs.YtboghanldbmfmabDoor
open Go.RowKit

/-- A payload: the caller's, or bytes of the law's own that are not the lent ones. -/
def Safe (L : Nat) (w : World) (lent : Option (Nat × List UInt8)) (ao : Option Addr) (ps : List UInt8) : Prop :=
  0 < ps.length → ∀ ad, ao = some ad → ad.block < L ∨ ((∃ cur, w.heap[ad.block]? = some (.cells cur 5 (0, 0))) ∧ ∀ g bs, lent = some (g, bs) → ad.block ≠ g)

theorem src_safe {L : Nat} {w w' : World} {lent : Option (Nat × List UInt8)} {ao : Option Addr} {ps : List UInt8} (h : Src w ao ps) (hs : Safe L w lent ao ps)
    (h5 : ∀ (k : Nat) (cur : Array Value), w.heap[k]? = some (Obj.cells cur 5 (0, 0)) → (∀ g bs, lent = some (g, bs) → k ≠ g) → w'.heap[k]? = w.heap[k]?) (hb : Below L w w') : Src w' ao ps := by
  cases ao with
  | none => intro h0; obtain ⟨ad, e, _⟩ := h h0; cases e
  | some ad =>
    intro h0
    refine src_same h ?_ h0
    rcases hs h0 ad rfl with h1 | ⟨⟨cur, h1⟩, h2⟩
    · exact hb.block _ h1
    · exact h5 _ cur h1 h2
theorem src_front {w : World} {ao : Option Addr} {xs ys : List UInt8} (h : Src w ao (xs ++ ys)) : Src w ao xs := fun h0 => by
  obtain ⟨ad, e, hc⟩ := h (by rw [List.length_append]; omega)
  exact ⟨ad, e, fun j u hu => hc j u (by rw [List.getElem?_append_left (List.getElem?_eq_some_iff.1 hu).1]; exact hu)⟩

set_option maxHeartbeats 1000000 in
theorem seals_any (L s : Nat) (w : World) (m : Nat) (lv hv : Value) (ls : List (Value × List UInt8)) (lent : Option (Nat × List UInt8)) (fv wv : Value) (fs : List (Value × List UInt8))
    (ao : Option Addr) (n cap : Nat) (ps : List UInt8) (hS : Shelf L s w m lv hv ls lent fv wv fs) (hF : Fine m fs) (hm : m < 1000) (hll : ls.length ≤ 8) (hn : ps.length = n) (hmx : n ≤ 65536) (hsrc : Src w ao ps)
    (hsafe : Safe L w lent ao ps) (hT : ∀ w', Below L w w' → Tab w') :
    Calls Tryd.prog 9 #[.pointer (some ⟨s, 0, none⟩), .slice ao n cap] w fun e w' => e = .returned (.bool true) ∧ ∃ lv' hv' ls' lent' fv' wv' fs', ls'.length ≤ 8 ∧ Shelf L s w' (m + 1) lv' hv' ls' lent' fv' wv' fs' ∧ Fine (m + 1) fs' ∧
      (∀ (k : Nat) (cur : Array Value), w.heap[k]? = some (Obj.cells cur 5 (0, 0)) → (∀ g bs, lent = some (g, bs) → k ≠ g) → w'.heap[k]? = w.heap[k]? ∧ ∀ g bs, lent' = some (g, bs) → k ≠ g) ∧ Below L w w' := by
  have hsl : s < w.heap.size := (Array.getElem?_eq_some_iff.1 hS.blk).1
  have hLw : L ≤ w.heap.size := by have := hS.base; omega
  obtain ⟨hkl, hcl⟩ := sealAns_len ps (by omega)
  obtain ⟨bs, hbs⟩ : ∃ bs, (sealAns ps).1 = bs := ⟨_, rfl⟩
  obtain ⟨c, hc⟩ : ∃ c, (sealAns ps).2 = c := ⟨_, rfl⟩
  rw [hbs] at hkl
  rw [hc] at hcl
  obtain ⟨kl, hk⟩ : ∃ kl, bs.length = kl := ⟨_, rfl⟩
  rw [hk] at hkl
  have HBS : Hid _ := hbs
  have HC : Hid _ := hc
  have HK : Hid _ := hk
  clear hbs hc hk
  have hcc : (((c : Nat) : Int) == ((c : Nat) : Int)) = true := by simp
  have hls : ls.length ≤ 1000 := by omega
  go_enter Tryd.func9, Tryd.ntmps9
  go_wp2_with fail
  refine (lend_any L s w m lv hv ls lent fv wv fs ao n cap ps hS hn hmx hsrc hLw).mono ?_
  rintro e w1 ⟨g, rfl, hS1, h51, hb1⟩
  obtain ⟨hLg, hR1⟩ := hS1.lentR g _ rfl
  have hg1 : g < w1.heap.size := (Array.getElem?_eq_some_iff.1 hR1).1
  have hs1 : Src w1 ao ps := src_safe hsrc hsafe (fun k cur hk hne => (h51 k cur hk hne).1) hb1
  go_wp2_with fail
  refine (seal_both _ n _ ps w1 hn hmx (hT w1 hb1) (src_front (row_src hR1)) bs kl c HBS.out HK.out HC.out).mono ?_
  rintro e w2 ⟨bo, rfl, hA2, hfr, hb2⟩
  have hs2 : Src w2 ao ps := src_keep hs1 hb2
  go_wp2_with fail
  refine (refSeal_both ao n cap ps w2 hn hmx hs2 bs kl c HBS.out HK.out HC.out).mono ?_
  rintro e w3 ⟨co, cc, rfl, hs3, hcfr, hb3⟩
  go_wp2_with (first
    | (go_at_call 14; refine (num_any _ _).mono ?_; rintro e wz ⟨rfl, hwz⟩; subst wz))
  have hSb : Src w2 bo bs := by
    obtain ⟨_, ⟨rfl, h0⟩ | ⟨g', rfl, hR⟩⟩ := hA2
    · intro h; have := HK.out; omega
    · exact row_src hR
  have hbo3 : Src w3 bo bs := src_keep hSb hb3
  have heq : (bs == bs) = true := by simp
  refine (same_any bo co kl kl _ _ bs bs w3 HK.out HK.out hbo3 hs3).mono ?_
  rintro e wz ⟨rfl, hwz⟩
  subst wz
  rw [heq]
  have hz2 := hb2.size
  have hz3 := hb3.size
  have hR3 : Row w3 g (ps ++ marks) := by
    unfold Row at *
    rw [hb3.block g (by omega), hb2.block g hg1, hR1]
  have hs3p : Src w3 ao ps := src_keep hs2 hb3
  go_wp2_with fail
  refine (kept_any g n cap ao ps w3 hR3 hn hmx hs3p).mono ?_
  rintro e w4 ⟨rfl, bs4, hl4, hR4, hO4⟩
  have hbg : ∀ g', (Value.slice bo kl kl).ownBlock = some g' → g' ≠ g := fun g' h e => by have := hfr g' h; omega
  have hA4 : Ans w4 bo kl bs := by
    refine ⟨HK.out, hA2.2.imp id fun ⟨g', e, hR⟩ => ⟨g', e, ?_⟩⟩
    have hne : g' ≠ g := hbg g' (by rw [e]; rfl)
    unfold Row at *
    rw [hO4.block g' hne, hb3.block g' (Array.getElem?_eq_some_iff.1 hR).1, hR]
  have hb4 : Src w4 bo bs := by
    obtain ⟨_, ⟨rfl, h0⟩ | ⟨g', rfl, hR⟩⟩ := hA4
    · intro h; have := HK.out; omega
    · exact row_src hR
  have hc4 : Src w4 co bs := by
    cases hco : co with
    | none => rw [hco] at hs3; intro h0; obtain ⟨ad, e, _⟩ := hs3 h0; cases e
    | some ad =>
      rw [hco] at hs3 hcfr
      exact src_same hs3 (hO4.block _ fun e => by have := hcfr ad.block rfl; omega)
  go_wp2_with fail
  refine (same_any bo co kl kl _ _ bs bs w4 HK.out HK.out hb4 hc4).mono ?_
  rintro e wz ⟨rfl, hwz⟩
  subst wz
  rw [heq]
  have hS4 : Shelf L s w4 m lv hv ls (some (g, bs4)) fv wv fs := (((hS1.below hb2).below hb3)).relent hO4 hR4 (by rw [hl4, List.length_append, hn]; rfl)
  go_wp2_with fail
  refine (stands_any L s w4 m lv hv ls _ fv wv fs hS4 hls).mono ?_
  rintro e w5 ⟨rfl, q5, rfl⟩
  go_wp2_with fail
  have hS5 : Shelf L s (w4.drewN q5) m lv hv ls (some (g, bs4)) fv wv fs := hS4.same fun _ _ => rfl
  have hA5 : Ans (w4.drewN q5) bo kl bs := hA4
  have hz1 := hb1.size
  have hbL4 : Below L w w4 := hb1.trans ((hb2.mono (by omega)).trans ((hb3.mono (by omega)).trans (hO4.below hLg)))
  have hbL5 : Below L w (w4.drewN q5) := below_drewN hbL4 q5
  have h54 : ∀ (k : Nat) (cur : Array Value), w.heap[k]? = some (Obj.cells cur 5 (0, 0)) → (∀ g bs, lent = some (g, bs) → k ≠ g) → (w4.drewN q5).heap[k]? = w.heap[k]? ∧ k ≠ g := fun k cur hk hne => by
    obtain ⟨h1, h2⟩ := h51 k cur hk hne
    have hkl : k < w1.heap.size := by have := (Array.getElem?_eq_some_iff.1 hk).1; omega
    refine ⟨?_, h2⟩
    show w4.heap[k]? = _
    rw [hO4.block k h2, hb3.block k (by omega), hb2.block k hkl, h1]
  have hlt1 : ∀ e, (e ∈ ls ∨ e ∈ fs) → ∀ g', e.1.ownBlock = some g' → g' < w1.heap.size := fun e he g' hg' => by
    rcases he with h | h
    · exact ((hS1.lsE e h).lt hg').1
    · exact ((hS1.fsE e h).lt hg').1
  generalize w4.drewN q5 = w5 at *
  refine (keep_any L s w5 m lv hv ls _ fv wv fs bo kl bs hS5 hF hm hll hA5 (by omega) (fun g' hg' => by have := hfr g' hg'; omega)
    (fun g' bs' e hg' => by cases e; exact hbg _ hg' rfl)
    (fun g' hg' => ⟨fun e he h => by have := hlt1 e (.inl he) g' h; have := hfr g' hg'; omega, fun e he h => by have := hlt1 e (.inr he) g' h; have := hfr g' hg'; omega⟩)).mono ?_
  rintro e w6 ⟨rfl, lv', hv', ls', fv', wv', fs', hl6, hS6, hF6, h56, hb6⟩
  go_wp2_with fail
  have hl7 : ls'.length ≤ 1000 := by omega
  refine (stands_any L s w6 (m + 1) lv' hv' ls' _ fv' wv' fs' hS6 hl7).mono ?_
  rintro e w7 ⟨rfl, q7, rfl⟩
  go_wp2_with fail
  go_ret
  refine ⟨rfl, lv', hv', ls', some (g, bs4), fv', wv', fs', hl6, hS6.same fun _ _ => rfl, hF6, fun k cur hk hne => ?_, below_drewN (hbL5.trans hb6) q7⟩
  obtain ⟨h1, h2⟩ := h54 k cur hk hne
  refine ⟨?_, fun g' bs' e => by cases e; exact h2⟩
  show w6.heap[k]? = _
  rw [h56 k cur (by rw [h1, hk]) (fun h => by have := hfr k h; have := (Array.getElem?_eq_some_iff.1 hk).1; omega), h1]
end Go.Proofs.YtboghanldbmfmabDoor
