import Derived.Test.YtjpdcahodmomgaaJn31
import Derived.Deep.LoopGhost
namespace Go.Proofs.Ytjpdcahodmomgaa
open Go.RowKit Go.PlainAid
set_option linter.unusedVariables false
set_option linter.unusedSimpArgs false
set_option maxRecDepth 100000
set_option maxHeartbeats 3200000
theorem full_ex (b : Nat → UInt8) (n : Nat) : ∃ k, k ≤ n ∧ Full b n k := by
  obtain ⟨m, h1, h2, h3⟩ := first_bad (fun j => RecOk b n (itR b j).2 (j + 1)) (n + 1)
  have h4 := Upto.le (b := b) (n := n) (k := m) h2
  exact ⟨m, by omega, h2, h3 (by omega)⟩
theorem itR_nx (b : Nat → UInt8) (k : Nat) : itR b (k + 1) = ((itR b k).1 ++ [recB b (itR b k).2 (lenIn (secL b (itR b k).2))], (itR b k).2 + kS (lenIn (secL b (itR b k).2))) := rfl
/-- Bytes that are only read. -/
def byE (L : Nat) (d : Value × List UInt8) : Ent L where
  bl := fun k => d.1.ownBlock = some k
  P := fun w => By w d.1 d.2 ∧ ∀ k, d.1.ownBlock = some k → L ≤ k ∧ k < w.heap.size
  fr := fun w w' h hP => by
    refine ⟨?_, fun k hk => ⟨(hP.2 k hk).1, ?_⟩⟩
    · obtain ⟨ao, k, c, h1, h2, h3, h4⟩ := hP.1
      refine ⟨ao, k, c, h1, h2, h3, fun ad e j u hu => ?_⟩
      subst e
      have h5 := h4 ad rfl j u hu
      have hb : (ad.add j).block = ad.block := by unfold Addr.add; split <;> rfl
      rw [← h5]
      refine World.cell?_of_block (w := w) ?_
      rw [hb]
      exact h ad.block (by rw [h1]; rfl)
    · have h5 := h k hk
      have h6 := (hP.2 k hk).2
      rw [Array.getElem?_eq_getElem h6] at h5
      exact (Array.getElem?_eq_some_iff.1 h5).1
  lo := fun w hP g hg => hP.2 g hg
def haveE (L : Nat) (v : Value) (hs : List (Value × List UInt8)) : List (Ent L) := tailE L 38 v hs.length (hs.map Prod.fst) :: hs.map (byE L)
/-- What the document's reading has found so far. -/
def RRel (L : Nat) (R : List (Ent L)) (w : World) (x : DV) (k : Nat) (v : Value) (wr : World) : Prop := ∃ ho hc hs, v = Value.slice ho k hc ∧ hs.length = k ∧ hs.map Prod.snd = (itR x.b k).1 ∧ Held (haveE L v hs ++ R) wr ∧ Below L w wr
theorem rrel_next {L h k : Nat} {R : List (Ent L)} {w wr w2 : World} {x : DV} {ho : Option Addr} {hc : Nat} (hr : RRel L R w x k (.slice ho k hc) wr) (hL : L ≤ wr.heap.size) (hk : k ≤ 1000) (hb : Below wr.heap.size wr w2) (hlo : wr.heap.size ≤ h) (hlt : h < w2.heap.size) {bs : List UInt8} (hbs : bs = recB x.b (itR x.b k).2 (lenIn (secL x.b (itR x.b k).2))) (hby : By w2 (.slice (some ⟨h, 0, none⟩) bs.length bs.length) bs) :
    ∃ v' w', (∀ ty, (Builtin.append_ #[30, 30] ty #[.slice ho k hc, .slice (some ⟨w2.heap.size, 0, none⟩) 1 1]).run Try.prog (w2.alloc (.cells #[.slice (some ⟨h, 0, none⟩) bs.length bs.length] 38)) = .ok v' w') ∧ RRel L R w x (k + 1) v' w' := by
  obtain ⟨_, _, hs, e, hl, hm, hH, hbl⟩ := hr
  cases e
  have h1 : Held (byE L (.slice (some ⟨h, 0, none⟩) bs.length bs.length, bs) :: (haveE L (.slice ho k hc) hs ++ R)) w2 := Held.fresh hH hb ⟨hby, fun j hj => by
    have e : some h = some j := hj
    cases e
    exact ⟨by omega, hlt⟩⟩ (fun j hj => by
    have e : some h = some j := hj
    cases e
    exact hlo)
  have h2 : Held (tailE L 38 (.slice ho k hc) k (hs.map Prod.fst) :: (hs.map (byE L) ++ (byE L (.slice (some ⟨h, 0, none⟩) bs.length bs.length, bs) :: R))) w2 := by
    refine h1.perm ?_
    unfold haveE
    rw [hl]
    refine (List.Perm.swap ..).trans (List.Perm.cons _ ?_)
    exact List.perm_middle.symm
  have hL2 : L ≤ w2.heap.size := Nat.le_trans hL hb.size
  obtain ⟨v', w', hrn, hH2, hc2, ⟨ao2, cc2, hv2⟩, hat2⟩ := h2.tailApp (t := 30) Try.underlying30 info30 rfl (.slice (some ⟨h, 0, none⟩) bs.length bs.length) rfl (by omega) (by omega) hL2
  refine ⟨v', w', hrn, ao2, cc2, hs ++ [(.slice (some ⟨h, 0, none⟩) bs.length bs.length, bs)], hv2, by rw [List.length_append, hl]; rfl, ?_, ?_, (hbl.trans (hb.mono hL)).trans (hc2.below hL2 (fun j hj => (tail_lt (h2.all _ (List.mem_cons_self ..)) j hj).1))⟩
  · rw [List.map_append, hm, itR_nx, List.map_cons, List.map_nil, hbs]
  · have e1 : haveE L v' (hs ++ [(.slice (some ⟨h, 0, none⟩) bs.length bs.length, bs)]) ++ R = tailE L 38 v' (k + 1) (hs.map Prod.fst ++ [.slice (some ⟨h, 0, none⟩) bs.length bs.length]) :: (hs.map (byE L) ++ (byE L (.slice (some ⟨h, 0, none⟩) bs.length bs.length, bs) :: R)) := by
      unfold haveE
      rw [List.length_append, hl, List.map_append, List.map_append]
      simp
    rw [e1]
    exact hH2
theorem rread_any {L g c : Nat} {x : DV} {R : List (Ent L)} (w : World) (h : Held R w) (hL : L ≤ w.heap.size) (hI : ∀ W, Below L w W → Held R W → By W (.slice (some ⟨g, 0, none⟩) (x.n * 512) c) (imgL x)) (hcap : x.n * 512 ≤ c) (hxn : x.n ≤ 1000) :
    Calls Try.prog 49 #[.slice (some ⟨g, 0, none⟩) (x.n * 512) c] w fun e w' => ∃ k v, e = .returned (.tuple #[v, .int .i64 ((itR x.b k).2 : Int)]) ∧ Full x.b x.n k ∧ RRel L R w x k v w' := by
  obtain ⟨K, hK, hF⟩ := full_ex x.b x.n
  have HF : Hid (Full x.b x.n K ∧ K ≤ x.n ∧ x.n ≤ 1000) := ⟨hF, hK, hxn⟩
  have HI : Hid (∀ W, Below L w W → Held R W → By W (.slice (some ⟨g, 0, none⟩) (x.n * 512) c) (imgL x)) := hI
  have H1 : Hid (RRel L R w x 0 (.slice none 0 0) w) := ⟨none, 0, [], rfl, rfl, rfl, h.add (tail_nil _ _ _) (fun k hk => by cases hk), Below.refl _ _⟩
  have HCP : Hid (x.n * 512 ≤ c) := hcap
  have HLL : Hid (L ≤ w.heap.size) := hL
  clear h hI hF hK hcap hL
  go_enter Try.func49, Try.ntmps49
  go_wp2_with fail
  go_loopg [4, 5] (K + 1) (fun gk s4 s5 wr => ∃ k, gk + k = K + 1 ∧ k ≤ K ∧ s5 = .int .i64 ((itR x.b k).2 : Int) ∧ RRel L R w x k s4 wr)
  case atStart => exact ⟨0, by omega, Nat.zero_le _, rfl, H1.out⟩
  case round =>
    clear H1
    obtain ⟨k, hgk, hkK, rfl, hR⟩ := hrel
    obtain ⟨ho, hc, hs, rfl, hr⟩ := id hR
    have hbl : Below L w wr := hr.2.2.2
    have hLr : L ≤ wr.heap.size := Nat.le_trans HLL.out hbl.size
    have hHR : Held R wr := Held.tailR hr.2.2.1
    have hby := HI.out wr hbl hHR
    have hle := Upto.le (fun j hj => HF.out.1.1 j (by omega) : Upto x.b x.n k)
    have HR : Hid (RRel L R w x k (.slice ho k hc) wr) := hR
    have HG : Hid (gk + k = K + 1 ∧ L ≤ wr.heap.size) := ⟨hgk, hLr⟩
    have hk1000 : k ≤ 1000 := by have := HF.out.2; omega
    have hn1000 : (itR x.b k).2 ≤ 1000 := by have := HF.out.2; omega
    by_cases hlt : k < K
    · have hok := HF.out.1.1 k hlt
      have hst := stands_yes (num := k + 1) wr hby HCP.out hxn (by omega) hok
      have hfit := hok.fit.2
      have hnx := itR_nx x.b k
      have hrl := recB_len x.b (itR x.b k).2 (lenIn (secL x.b (itR x.b k).2))
      obtain ⟨bs, hbs⟩ : ∃ bs, bs = recB x.b (itR x.b k).2 (lenIn (secL x.b (itR x.b k).2)) := ⟨_, rfl⟩
      rw [← hbs] at hst hrl
      have HBS : Hid (bs = recB x.b (itR x.b k).2 (lenIn (secL x.b (itR x.b k).2))) := hbs
      have hbl8 : bs.length ≤ 8192 := by rw [hrl]; exact hfit
      have HNX : Hid ((itR x.b (k + 1)).2 = (itR x.b k).2 + kS bs.length) := by rw [Hid, hnx, hrl]
      have HST : Hid _ := hst
      obtain ⟨nx, hnxe⟩ : ∃ nx, nx = (itR x.b k).2 := ⟨_, rfl⟩
      rw [← hnxe] at HST HNX hn1000 ⊢
      have hk2 := kS_le bs.length hbl8
      clear hR hr hbl hLr hHR hby hle hgk hok hst hfit hnx hrl hbs hnxe
      obtain ⟨bl, hble⟩ : ∃ bl, bl = bs.length := ⟨_, rfl⟩
      have HBL : Hid (bl = bs.length) := hble
      rw [← hble] at HST hbl8 HNX hk2
      have HKC : Hid (∀ X : World, Calls Try.prog 46 #[.int .i64 (bl : Int)] X fun e w' => e = .returned (.int .i64 (kS bl : Int)) ∧ w' = X) := fun X => count_any bl X (by omega)
      obtain ⟨kb, hkb⟩ : ∃ kb, kb = kS bl := ⟨_, rfl⟩
      rw [← hkb] at HKC HNX hk2
      clear hble hkb
      go_wp2_with fail
      refine Calls.mono HST.out ?_
      rintro e w2 ⟨hh, rfl, g1, g2, g3, g4⟩
      obtain ⟨v', w3, hr3, hR3⟩ := rrel_next HR.out HG.out.2 hk1000 g4 g1 g2 HBS.out (by rw [← HBL.out]; exact g3)
      rw [← HBL.out] at hr3
      have HR3 : Hid (∀ ty, (Builtin.append_ #[30, 30] ty #[.slice ho k hc, .slice (some ⟨w2.heap.size, 0, none⟩) 1 1]).run Try.prog (w2.alloc (.cells #[.slice (some ⟨hh, 0, none⟩) bl bl] 38)) = .ok v' w3) := hr3
      have HN : Hid (RRel L R w x (k + 1) v' w3) := hR3
      obtain ⟨ho', hc', _, hv', _⟩ := hR3
      subst hv'
      clear HST g1 g2 g3 g4 hr3
      go_wp2_with (at_builtin; refine wpList_runs rfl _ _ 30 rfl rfl rfl HR3.out ?_)
      clear HR3
      refine Calls.mono (HKC.out _) ?_
      rintro e wo ⟨rfl, hwo⟩
      replace hwo := hwo.symm
      subst hwo
      clear HKC
      go_wp2_with fail
      go_roundg (gk - 1)
      case rel => exact ⟨k + 1, by have := HG.out; omega, by omega, by rw [HNX.out]; push_cast; rfl, HN.out⟩
      case measure => have := HG.out; omega
    · obtain rfl : k = K := by omega
      have HST : Hid _ := stands_no (num := k + 1) wr hby HCP.out hxn (by omega) (by omega) HF.out.1.2
      obtain ⟨nx, hnxe⟩ : ∃ nx, nx = (itR x.b k).2 := ⟨_, rfl⟩
      have HNE : Hid (nx = (itR x.b k).2) := hnxe
      rw [← hnxe] at HST hn1000 ⊢
      clear hR hr hbl hLr hHR hby hle hgk hnxe
      go_wp2_with fail
      refine Calls.mono HST.out ?_
      rintro e w2 ⟨rfl, hb2⟩
      have HN : Hid (RRel L R w x k (.slice ho k hc) w2) := by
        obtain ⟨_, _, hs, e, h2, h3, h4, h5⟩ := HR.out
        cases e
        exact ⟨_, _, hs, rfl, h2, h3, h4.more hb2, h5.trans (hb2.mono HG.out.2)⟩
      clear HST hb2 HR
      go_wp2_with fail
      go_ret2
      exact ⟨k, _, by rw [← HNE.out]; rfl, HF.out.1, HN.out⟩
end Go.Proofs.Ytjpdcahodmomgaa
