import Derived.Test.YtboghanldbmfmabDoorSeals2
import Derived.Test.YtboghanldbmfmabDoorRefOpen
namespace Go.Proofs.YtboghanldbmfmabDoor
open Go.RowKit

/-- What the document answers to Open. -/
def openAns (bs : List UInt8) : List UInt8 × Nat := (if openCode bs = 0 then body bs else [], openCode bs)
theorem openAns_len (bs : List UInt8) (h : bs.length ≤ 65536) : (openAns bs).1.length ≤ 65536 ∧ (openAns bs).2 ≤ 12 := by
  unfold openAns
  refine ⟨?_, ?_⟩
  · show (if openCode bs = 0 then body bs else []).length ≤ 65536
    split
    · simp [body]; omega
    · simp
  · show openCode bs ≤ 12
    rcases code_cases bs with h | h | h | h <;> omega

theorem open_both (ao : Option Addr) (n cap : Nat) (ps : List UInt8) (w : World) (hn : ps.length = n) (hm : n ≤ 65536) (hcap : n ≤ cap) (hT : Tab w) (hsrc : Src w ao ps) (bs : List UInt8) (k c : Nat) (hbs : (openAns ps).1 = bs) (hk : bs.length = k) (hc : (openAns ps).2 = c) :
    Calls Tryd.prog 13 #[.slice ao n cap] w fun e w' => ∃ bo, e = .returned (.tuple #[.slice bo k k, .int .i64 (c : Nat)]) ∧ Ans w' bo k bs ∧ (∀ g, (Value.slice bo k k).ownBlock = some g → w.heap.size ≤ g) ∧ Below w.heap.size w w' := by
  subst hk hbs hc
  show Calls _ _ _ _ fun e w' => ∃ bo, e = .returned (.tuple #[_, .int .i64 (openCode ps : Nat)]) ∧ _
  unfold openAns
  refine (open_any ao n cap ps w hn (by omega) hcap hsrc hT).mono ?_
  rintro e w' ⟨v, rfl, hb, h1, h2⟩
  by_cases h0 : openCode ps = 0
  · obtain ⟨rfl, hR⟩ := h2 h0
    obtain ⟨_, _, hl⟩ := code_frame ps h0
    simp only [if_pos h0]
    refine ⟨some ⟨w.heap.size, 0, none⟩, by rw [show n - 7 = (body ps).length from by omega], ⟨rfl, .inr ⟨_, rfl, hR⟩⟩, (fun g hg => by simp [Value.ownBlock] at hg; omega), hb⟩
  · rw [h1 h0]
    simp only [if_neg h0]
    exact ⟨none, rfl, ⟨rfl, .inl ⟨rfl, rfl⟩⟩, (fun g hg => by simp [Value.ownBlock] at hg), hb⟩

theorem refOpen_both (ao : Option Addr) (n cap : Nat) (ps : List UInt8) (w : World) (hn : ps.length = n) (hm : n ≤ 65536) (hcap : n ≤ cap) (hsrc : Src w ao ps) (bs : List UInt8) (k c : Nat) (hbs : (openAns ps).1 = bs) (hk : bs.length = k) (hc : (openAns ps).2 = c) :
    Calls Tryd.prog 17 #[.slice ao n cap] w fun e w' => ∃ co c', e = .returned (.tuple #[.slice co k c', .int .i64 (c : Nat)]) ∧ Src w' co bs ∧ (∀ g, (Value.slice co k c').ownBlock = some g → w.heap.size ≤ g) ∧ Below w.heap.size w w' := by
  have bad : ∀ code, openCode ps = code → code ≠ 0 → bs = [] ∧ k = 0 ∧ c = code := fun code h h0 => by
    have e : bs = [] := by rw [← hbs]; show (if openCode ps = 0 then body ps else []) = []; rw [if_neg (by omega)]
    exact ⟨e, by rw [← hk, e]; rfl, by rw [← hc]; exact h⟩
  by_cases h7 : n < 7
  · obtain ⟨rfl, rfl, rfl⟩ := bad 10 (by unfold openCode; rw [if_pos (by omega)]) (by omega)
    refine (refOpen_short ao n cap w h7).mono ?_
    rintro e w' ⟨rfl, rfl⟩
    exact ⟨none, 0, rfl, (fun h => by cases h), (fun g hg => by simp [Value.ownBlock] at hg), Below.refl _ _⟩
  obtain ⟨b, off, rfl, hA⟩ := src_at hsrc (by omega)
  obtain ⟨m, rfl⟩ : ∃ m, n = m + 7 := ⟨n - 7, by omega⟩
  have c0 := hA 0 _ (getD_some ps 0 (by omega))
  have c1 := hA 1 _ (getD_some ps 1 (by omega))
  have c2 := hA 2 _ (getD_some ps 2 (by omega))
  simp only [B, Nat.add_zero] at c0 c1 c2
  by_cases hv : ¬ ps.getD 0 0 = 1
  · obtain ⟨rfl, rfl, rfl⟩ := bad 11 (by unfold openCode; rw [if_neg (by omega), if_pos hv]) (by omega)
    refine (refOpen_ver b off m cap _ w (by omega) ?_ c0).mono ?_
    · rw [bne_iff_ne]
      intro h
      refine hv (UInt8.toNat_inj.1 ?_)
      have : ((1 : UInt8).toNat) = 1 := rfl
      omega
    · rintro e w' ⟨rfl, rfl⟩
      exact ⟨none, 0, rfl, (fun h => by cases h), (fun g hg => by simp [Value.ownBlock] at hg), Below.refl _ _⟩
  have hv := Decidable.not_not.1 hv
  by_cases hb : 4096 < told ps ∨ told ps ≠ m
  · obtain ⟨rfl, rfl, rfl⟩ := bad 10 (by unfold openCode; rw [if_neg (by omega), if_neg (by simpa using hv), if_pos (by omega)]) (by omega)
    rw [hv] at c0
    have c0' : w.cell? ⟨b, off, none⟩ = some (.int .u8 1) := c0
    refine (refOpen_len b off m cap _ _ (told ps) w (by omega) (byte_lt _) (byte_lt _) c0' c1 c2 rfl hb).mono ?_
    rintro e w' ⟨rfl, hbl⟩
    exact ⟨none, 0, rfl, (fun h => by cases h), (fun g hg => by simp [Value.ownBlock] at hg), hbl⟩
  refine (refOpen_tail b off m cap ps w hn (by omega) hcap hA hv (by omega) _ rfl).mono ?_
  rintro e w' ⟨⟨hs, co, c', rfl, hown⟩ | ⟨hs, rfl⟩, hbl⟩
  · have hcode : openCode ps = 0 := by
      unfold openCode
      rw [if_neg (by omega), if_neg (by simpa using hv), if_neg (by omega), if_neg (by rw [hn]; simpa using hs)]
    have e1 : bs = body ps := by rw [← hbs]; show (if openCode ps = 0 then body ps else []) = _; rw [if_pos hcode]
    have e2 : c = 0 := by rw [← hc]; exact hcode
    have e3 : k = m := by rw [← hk, e1]; simp [body]; omega
    subst e1 e2 e3
    have hfr : ∀ g, (Value.slice co k c').ownBlock = some g → w.heap.size ≤ g := fun g hg => (hown.lt g hg).1
    obtain ⟨co', c'', e', _, _, hs', _⟩ := own_src hown
    cases e'
    exact ⟨co, c', rfl, hs', hfr, hbl⟩
  · obtain ⟨rfl, rfl, rfl⟩ := bad 12 (by
      unfold openCode
      rw [if_neg (by omega), if_neg (by simpa using hv), if_neg (by omega), if_pos (by rw [hn]; simpa using hs)]) (by omega)
    exact ⟨none, 0, rfl, (fun h => by cases h), (fun g hg => by simp [Value.ownBlock] at hg), hbl⟩

set_option maxHeartbeats 1000000 in
theorem opens_any (L s : Nat) (w : World) (m : Nat) (lv hv : Value) (ls : List (Value × List UInt8)) (lent : Option (Nat × List UInt8)) (fv wv : Value) (fs : List (Value × List UInt8))
    (ao : Option Addr) (n cap : Nat) (ps : List UInt8) (hS : Shelf L s w m lv hv ls lent fv wv fs) (hF : Fine m fs) (hm : m < 1000) (hll : ls.length ≤ 8) (hn : ps.length = n) (hmx : n ≤ 65536) (hcap : n ≤ cap) (hsrc : Src w ao ps)
    (hsafe : Safe L w lent ao ps) (hT : ∀ w', Below L w w' → Tab w') :
    Calls Tryd.prog 7 #[.pointer (some ⟨s, 0, none⟩), .slice ao n cap] w fun e w' => e = .returned (.bool true) ∧ ∃ lv' hv' ls' lent' fv' wv' fs', ls'.length ≤ 8 ∧ Shelf L s w' (m + 1) lv' hv' ls' lent' fv' wv' fs' ∧ Fine (m + 1) fs' ∧
      (∀ (k : Nat) (cur : Array Value), w.heap[k]? = some (Obj.cells cur 5 (0, 0)) → (∀ g bs, lent = some (g, bs) → k ≠ g) → w'.heap[k]? = w.heap[k]? ∧ ∀ g bs, lent' = some (g, bs) → k ≠ g) ∧ Below L w w' := by
  have hsl : s < w.heap.size := (Array.getElem?_eq_some_iff.1 hS.blk).1
  have hLw : L ≤ w.heap.size := by have := hS.base; omega
  obtain ⟨hkl, hcl⟩ := openAns_len ps (by omega)
  obtain ⟨bs, hbs⟩ : ∃ bs, (openAns ps).1 = bs := ⟨_, rfl⟩
  obtain ⟨c, hc⟩ : ∃ c, (openAns ps).2 = c := ⟨_, rfl⟩
  rw [hbs] at hkl
  rw [hc] at hcl
  obtain ⟨kl, hk⟩ : ∃ kl, bs.length = kl := ⟨_, rfl⟩
  rw [hk] at hkl
  have HBS : Hid _ := hbs
  have HC : Hid _ := hc
  have HK : Hid _ := hk
  clear hbs hc hk
  have hcc : (((c : Nat) : Int) == ((c : Nat) : Int)) = true := by simp
  have hls : ls.length ≤ 1000 := by omega
  go_enter Tryd.func7, Tryd.ntmps7
  go_wp2_with fail
  refine (lend_any L s w m lv hv ls lent fv wv fs ao n cap ps hS hn hmx hsrc hLw).mono ?_
  rintro e w1 ⟨g, rfl, hS1, h51, hb1⟩
  obtain ⟨hLg, hR1⟩ := hS1.lentR g _ rfl
  have hg1 : g < w1.heap.size := (Array.getElem?_eq_some_iff.1 hR1).1
  have hs1 : Src w1 ao ps := src_safe hsrc hsafe (fun k cur hk hne => (h51 k cur hk hne).1) hb1
  go_wp2_with fail
  refine (open_both _ n _ ps w1 hn hmx (by omega) (hT w1 hb1) (src_front (row_src hR1)) bs kl c HBS.out HK.out HC.out).mono ?_
  rintro e w2 ⟨bo, rfl, hA2, hfr, hb2⟩
  have hs2 : Src w2 ao ps := src_keep hs1 hb2
  go_wp2_with fail
  refine (refOpen_both ao n cap ps w2 hn hmx hcap hs2 bs kl c HBS.out HK.out HC.out).mono ?_
  rintro e w3 ⟨co, cc, rfl, hs3, hcfr, hb3⟩
  go_wp2_with (first
    | (go_at_call 14; refine (num_any _ _).mono ?_; rintro e wz ⟨rfl, hwz⟩; subst wz))
  have hSb : Src w2 bo bs := by
    obtain ⟨_, ⟨rfl, h0⟩ | ⟨g', rfl, hR⟩⟩ := hA2
    · intro h; have := HK.out; omega
    · exact row_src hR
  have hbo3 : Src w3 bo bs := src_keep hSb hb3
  have heq : (bs == bs) = true := by simp
  refine (same_any bo co kl kl _ _ bs bs w3 HK.out HK.out hbo3 hs3).mono ?_
  rintro e wz ⟨rfl, hwz⟩
  subst wz
  rw [heq]
  have hz2 := hb2.size
  have hz3 := hb3.size
  have hR3 : Row w3 g (ps ++ marks) := by
    unfold Row at *
    rw [hb3.block g (by omega), hb2.block g hg1, hR1]
  have hs3p : Src w3 ao ps := src_keep hs2 hb3
  go_wp2_with fail
  refine (kept_any g n cap ao ps w3 hR3 hn hmx hs3p).mono ?_
  rintro e w4 ⟨rfl, bs4, hl4, hR4, hO4⟩
  have hbg : ∀ g', (Value.slice bo kl kl).ownBlock = some g' → g' ≠ g := fun g' h e => by have := hfr g' h; omega
  have hA4 : Ans w4 bo kl bs := by
    refine ⟨HK.out, hA2.2.imp id fun ⟨g', e, hR⟩ => ⟨g', e, ?_⟩⟩
    have hne : g' ≠ g := hbg g' (by rw [e]; rfl)
    unfold Row at *
    rw [hO4.block g' hne, hb3.block g' (Array.getElem?_eq_some_iff.1 hR).1, hR]
  have hb4 : Src w4 bo bs := by
    obtain ⟨_, ⟨rfl, h0⟩ | ⟨g', rfl, hR⟩⟩ := hA4
    · intro h; have := HK.out; omega
    · exact row_src hR
  have hc4 : Src w4 co bs := by
    cases hco : co with
    | none => rw [hco] at hs3; intro h0; obtain ⟨ad, e, _⟩ := hs3 h0; cases e
    | some ad =>
      rw [hco] at hs3 hcfr
      exact src_same hs3 (hO4.block _ fun e => by have := hcfr ad.block rfl; omega)
  go_wp2_with fail
  refine (same_any bo co kl kl _ _ bs bs w4 HK.out HK.out hb4 hc4).mono ?_
  rintro e wz ⟨rfl, hwz⟩
  subst wz
  rw [heq]
  have hS4 : Shelf L s w4 m lv hv ls (some (g, bs4)) fv wv fs := (((hS1.below hb2).below hb3)).relent hO4 hR4 (by rw [hl4, List.length_append, hn]; rfl)
  go_wp2_with fail
  refine (stands_any L s w4 m lv hv ls _ fv wv fs hS4 hls).mono ?_
  rintro e w5 ⟨rfl, q5, rfl⟩
  go_wp2_with fail
  have hS5 : Shelf L s (w4.drewN q5) m lv hv ls (some (g, bs4)) fv wv fs := hS4.same fun _ _ => rfl
  have hA5 : Ans (w4.drewN q5) bo kl bs := hA4
  have hz1 := hb1.size
  have hbL4 : Below L w w4 := hb1.trans ((hb2.mono (by omega)).trans ((hb3.mono (by omega)).trans (hO4.below hLg)))
  have hbL5 : Below L w (w4.drewN q5) := below_drewN hbL4 q5
  have h54 : ∀ (k : Nat) (cur : Array Value), w.heap[k]? = some (Obj.cells cur 5 (0, 0)) → (∀ g bs, lent = some (g, bs) → k ≠ g) → (w4.drewN q5).heap[k]? = w.heap[k]? ∧ k ≠ g := fun k cur hk hne => by
    obtain ⟨h1, h2⟩ := h51 k cur hk hne
    have hkl : k < w1.heap.size := by have := (Array.getElem?_eq_some_iff.1 hk).1; omega
    refine ⟨?_, h2⟩
    show w4.heap[k]? = _
    rw [hO4.block k h2, hb3.block k (by omega), hb2.block k hkl, h1]
  have hlt1 : ∀ e, (e ∈ ls ∨ e ∈ fs) → ∀ g', e.1.ownBlock = some g' → g' < w1.heap.size := fun e he g' hg' => by
    rcases he with h | h
    · exact ((hS1.lsE e h).lt hg').1
    · exact ((hS1.fsE e h).lt hg').1
  generalize w4.drewN q5 = w5 at *
  refine (keep_any L s w5 m lv hv ls _ fv wv fs bo kl bs hS5 hF hm hll hA5 (by omega) (fun g' hg' => by have := hfr g' hg'; omega)
    (fun g' bs' e hg' => by cases e; exact hbg _ hg' rfl)
    (fun g' hg' => ⟨fun e he h => by have := hlt1 e (.inl he) g' h; have := hfr g' hg'; omega, fun e he h => by have := hlt1 e (.inr he) g' h; have := hfr g' hg'; omega⟩)).mono ?_
  rintro e w6 ⟨rfl, lv', hv', ls', fv', wv', fs', hl6, hS6, hF6, h56, hb6⟩
  go_wp2_with fail
  have hl7 : ls'.length ≤ 1000 := by omega
  refine (stands_any L s w6 (m + 1) lv' hv' ls' _ fv' wv' fs' hS6 hl7).mono ?_
  rintro e w7 ⟨rfl, q7, rfl⟩
  go_wp2_with fail
  go_ret
  refine ⟨rfl, lv', hv', ls', some (g, bs4), fv', wv', fs', hl6, hS6.same fun _ _ => rfl, hF6, fun k cur hk hne => ?_, below_drewN (hbL5.trans hb6) q7⟩
  obtain ⟨h1, h2⟩ := h54 k cur hk hne
  refine ⟨?_, fun g' bs' e => by cases e; exact h2⟩
  show w6.heap[k]? = _
  rw [h56 k cur (by rw [h1, hk]) (fun h => by have := hfr k h; have := (Array.getElem?_eq_some_iff.1 hk).1; omega), h1]
end Go.Proofs.YtboghanldbmfmabDoor
