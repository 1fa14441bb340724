import Derived.Test.YtcnokgphioigoaaJq9
import Derived.Test.YtcnokgphioigoaaSB
import Derived.Test.YtcnokgphioigoaaJI
namespace Go.Proofs.Ytcnokgphioigoaa
open Go.RowKit Go.PlainAid
set_option linter.unusedVariables false
set_option linter.unusedSimpArgs false
set_option maxRecDepth 100000
set_option maxHeartbeats 3200000
/-- A shelf, by what it does. -/
structure Keeper (σ : Type) (L kb : Nat) where
  Inv : σ → World → Prop
  bl : σ → Nat → Prop
  cnt : σ → Nat
  lt : ∀ {s w k}, Inv s w → bl s k → L ≤ k ∧ k < w.heap.size
  fr : ∀ (s : σ) (w w' : World), (∀ g, bl s g → w'.heap[g]? = w.heap[g]?) → Inv s w → Inv s w'
  put : ∀ {s w l} {bs : List UInt8}, Inv s w → w.ownsRow L 5 1 l bs.length (bs.map B) → (∀ g, l.ownBlock = some g → ¬ bl s g) → bs.length ≤ 1000000 → cnt s ≤ 1000000000000 →
    Calls Try.prog 67 #[.pointer (some ⟨kb, 0, none⟩), l] w fun r w' => r = .returned (.tuple #[]) ∧ ∃ s', Inv s' w' ∧ cnt s' ≤ cnt s + 18 ∧ Chg (fun k => bl s k ∨ l.ownBlock = some k) w w' ∧ ∀ k, bl s' k → bl s k ∨ l.ownBlock = some k ∨ w.heap.size ≤ k
  whole : ∀ {s w}, Inv s w → cnt s ≤ 50000000000 → Calls Try.prog 46 #[.pointer (some ⟨kb, 0, none⟩)] w fun r w' => r = .returned (.bool true) ∧ Chg (bl s) w w'
def kE {σ : Type} {L kb : Nat} (K : Keeper σ L kb) (s : σ) : Ent L where
  bl := K.bl s
  P := fun w => K.Inv s w
  fr := fun w w' h hP => K.fr s w w' h hP
  lo := fun w hP g hg => K.lt hP hg
theorem Held.merge {L : Nat} {e1 e2 e' : Ent L} {R : List (Ent L)} {w w' : World} (h : Held (e1 :: e2 :: R) w) (hc : Chg (fun k => e1.bl k ∨ e2.bl k) w w') (hP : e'.P w') (hu : ∀ k, e'.bl k → e1.bl k ∨ e2.bl k ∨ w.heap.size ≤ k) : Held (e' :: R) w' := by
  have hR := h.drop.drop
  have hap : ∀ k, e1.bl k ∨ e2.bl k → ¬ has R k := fun k hk hh => by
    rcases hk with q | q
    · exact h.apart q (has_cons.2 (.inr hh))
    · exact h.drop.apart q hh
  refine (hR.chg hc (fun k hk e => hap k e hk)).add hP fun k hk hh => ?_
  rcases hu k hk with q | q | q
  · exact hap k (.inl q) hh
  · exact hap k (.inr q) hh
  · have := (hR.typ hh).2; omega
theorem at_dead {jb : Nat} (i : Int) (w : World) (h : Blk w jb deadA 79) : Calls Try.prog 31 #[.pointer (some ⟨jb, 0, none⟩), .int .i64 i] w fun e w' => e = .returned (.tuple #[.slice none 0 0, .int .i64 1]) ∧ w' = w := by
  have c1 : w.cell? ⟨jb, 1, none⟩ = some (.slice none 0 0) := h.cell 1
  clear h
  by_cases hi : i < 0
  · go_enter Try.func31, Try.ntmps31
    go_wp2_with fail
    go_ret2
    exact ⟨rfl, rfl⟩
  · have hi2 : 0 ≤ i := by omega
    go_enter Try.func31, Try.ntmps31
    go_wp2_with fail
    go_ret2
    exact ⟨rfl, rfl⟩
section
variable {L : Nat} {d : DK} {y : JV} {R : List (Ent L)}
theorem at_noG (z : Int) (w : World) (h : Held (d.es L d.x (JE L d.jb y d.dead) R) w) (hd : DKO d y) (hz : d.dead = true ∨ z < 0 ∨ (d.hs.length : Int) ≤ z) : Calls Try.prog 60 #[.pointer (some ⟨d.kb, 0, none⟩), .int .i64 z] w fun e w' => e = .returned (.bool true) ∧ w' = w := by
  have hB := dk_box h
  obtain ⟨ho, hc, hve⟩ := hd.ehv
  have c1 : w.cell? ⟨d.kb, 1, none⟩ = some (.pointer (some ⟨d.jb, 0, none⟩)) := hB.cell 1
  have c6 : w.cell? ⟨d.kb, 6, none⟩ = some (.slice ho d.hs.length hc) := by rw [← hve]; exact hB.cell 6
  have c8 : w.cell? ⟨d.kb, 8, none⟩ = some (.bool d.dead) := hB.cell 8
  have hle := hd.le
  have hn2 := hd.n2
  have hl := hd.hl
  have HA : Hid (Calls Try.prog 31 #[.pointer (some ⟨d.jb, 0, none⟩), .int .i64 z] w fun e w' => e = .returned (.tuple #[.slice none 0 0, .int .i64 1]) ∧ w' = w) := by
    cases hdd : d.dead with
    | true =>
      rw [hdd] at h
      exact at_dead z w ((dk_j0 h).all (boxE L d.jb deadA 79) (by simp [JE])).1
    | false =>
      rw [hdd] at h hz
      have hlv := hd.live hdd
      have hlen : y.recs.length = d.hs.length := by have := congrArg List.length hlv.2.1; simpa using this
      exact at_no z w (dk_j0 (J := y.es L d.jb) h) (by rw [hlen]; rcases hz with q | q; cases q; exact q) (by omega)
  have HNM : Hid (∀ X : World, Calls Try.prog 12 #[.int .i64 1] X fun e w' => e = .returned (.int .i64 1) ∧ w' = X) := fun X => num_any 1 X
  obtain ⟨n, hn⟩ : ∃ n, n = d.hs.length := ⟨_, rfl⟩
  rw [← hn] at c6 hz
  clear h hd hB hve hle hn2 hl hn
  cases hdd : d.dead with
  | true =>
    rw [hdd] at c8
    clear hz
    go_enter Try.func60, Try.ntmps60
    go_wp2_with fail
    refine Calls.mono HA.out ?_
    rintro e wo ⟨rfl, hwo⟩
    replace hwo := hwo.symm
    subst hwo
    go_wp2_with fail
    refine Calls.mono (HNM.out _) ?_
    rintro e wo ⟨rfl, hwo⟩
    replace hwo := hwo.symm
    subst hwo
    go_wp2_with fail
    go_ret
    exact ⟨rfl, rfl⟩
  | false =>
    rw [hdd] at c8 hz
    by_cases h0 : z < 0
    · clear hz
      go_enter Try.func60, Try.ntmps60
      go_wp2_with fail
      refine Calls.mono HA.out ?_
      rintro e wo ⟨rfl, hwo⟩
      replace hwo := hwo.symm
      subst hwo
      go_wp2_with fail
      refine Calls.mono (HNM.out _) ?_
      rintro e wo ⟨rfl, hwo⟩
      replace hwo := hwo.symm
      subst hwo
      go_wp2_with fail
      go_ret
      exact ⟨rfl, rfl⟩
    · have hz2 : (n : Int) ≤ z := by
        rcases hz with q | q | q
        · cases q
        · omega
        · exact q
      clear hz
      go_enter Try.func60, Try.ntmps60
      go_wp2_with fail
      refine Calls.mono HA.out ?_
      rintro e wo ⟨rfl, hwo⟩
      replace hwo := hwo.symm
      subst hwo
      go_wp2_with fail
      refine Calls.mono (HNM.out _) ?_
      rintro e wo ⟨rfl, hwo⟩
      replace hwo := hwo.symm
      subst hwo
      go_wp2_with fail
      go_ret
      exact ⟨rfl, rfl⟩
end
end Go.Proofs.Ytcnokgphioigoaa
namespace Go.Proofs.Ytcnokgphioigoaa
open Go.RowKit Go.PlainAid
set_option linter.unusedVariables false
set_option linter.unusedSimpArgs false
set_option maxRecDepth 100000
set_option maxHeartbeats 3200000
section
variable {L : Nat} {d : DK} {y : JV} {xi : DV} {J R : List (Ent L)} {E : Ent L} {w : World}
theorem dk_R : (d.es L xi J (E :: R)).Perm (E :: d.es L xi J R) := by
  unfold DK.es
  have := List.perm_middle (a := E) (l₁ := boxE L d.kb d.cs 64 :: (haveE L d.hv d.hs ++ (imE L d.iv xi :: (J ++ [dmE L d.p d.s d.x])))) (l₂ := R)
  simpa [List.append_assoc] using this
theorem dk_have {i : Nat} {q : Value × List UInt8} (h : Held (d.es L xi J R) w) (hq : d.hs[i]? = some q) {ho : Option Addr} {hc : Nat} (hv : d.hv = .slice ho d.hs.length hc) : ∃ b9 o9 uo un uc, ho = some ⟨b9, o9, none⟩ ∧ q.1 = .slice uo un uc ∧ w.cell? ⟨b9, o9 + i, none⟩ = some (.slice uo un uc) ∧ By w (.slice uo un uc) q.2 := by
  have ht : Tail w L 38 d.hv d.hs.length (d.hs.map Prod.fst) := h.all (tailE L 38 d.hv d.hs.length (d.hs.map Prod.fst)) (by simp [DK.es, haveE])
  obtain ⟨b9, o9, cap, e1, e2⟩ := tail_at ht (i := i) (u := q.1) (by rw [List.getElem?_map, hq]; rfl)
  rw [hv] at e1
  have hby : By w q.1 q.2 := (h.all (byE L q) (by
    have := List.mem_of_getElem? hq
    unfold DK.es haveE
    exact List.mem_cons_of_mem _ (List.mem_append_left _ (List.mem_cons_of_mem _ (List.mem_map_of_mem this))))).1
  obtain ⟨uo, un, uc, e5, _⟩ := id hby
  rw [e5] at e2 hby
  cases e1
  exact ⟨b9, o9, uo, un, uc, rfl, e5, e2, hby⟩
theorem at_yesG {σ : Type} {sb : Nat} {K : Keeper σ L sb} {s : σ} (i : Nat) (w : World) (h : Held (d.es L d.x (y.es L d.jb) (kE K s :: R)) w) (hd : DKO d y) (hsb : d.sb = sb) (hdd : d.dead = false) (hi : i < d.hs.length) (hcn : K.cnt s ≤ 1000000000000) :
    Calls Try.prog 60 #[.pointer (some ⟨d.kb, 0, none⟩), .int .i64 (i : Int)] w fun e w' => e = .returned (.bool true) ∧ ∃ s', Held (d.es L d.x (y.es L d.jb) (kE K s' :: R)) w' ∧ K.cnt s' ≤ K.cnt s + 18 ∧ Below L w w' := by
  have hlv := hd.live hdd
  have hlen : y.recs.length = d.hs.length := by have := congrArg List.length hlv.2.1; simpa using this
  obtain ⟨r, hr⟩ : ∃ r, y.recs[i]? = some r := ⟨_, List.getElem?_eq_getElem (by omega)⟩
  obtain ⟨q, hq⟩ : ∃ q, d.hs[i]? = some q := ⟨_, List.getElem?_eq_getElem (by omega)⟩
  have hrq : r.2 = q.2 := by
    have h1 : (y.recs.map Prod.snd)[i]? = some r.2 := by rw [List.getElem?_map, hr]; rfl
    have h2 : (d.hs.map Prod.snd)[i]? = some q.2 := by rw [List.getElem?_map, hq]; rfl
    rw [hlv.2.1, h2] at h1
    exact (Option.some.inj h1).symm
  have hr8 : r.2.length ≤ 8192 := hlv.2.2.2.2 r (List.mem_of_getElem? hr)
  have hB := dk_box h
  obtain ⟨ho, hc, hve⟩ := hd.ehv
  have c1 : w.cell? ⟨d.kb, 1, none⟩ = some (.pointer (some ⟨d.jb, 0, none⟩)) := hB.cell 1
  have hle := hd.le
  have hn2 := hd.n2
  have hl := hd.hl
  have HA : Hid _ := at_yes w (dk_j0 h) hr hr8 (by omega)
  have HH : Hid (Held (d.es L d.x (y.es L d.jb) (kE K s :: R)) w ∧ L ≤ w.heap.size) := ⟨h, dk_lo h⟩
  have HQ : Hid (d.hs[i]? = some q ∧ d.hv = .slice ho d.hs.length hc ∧ r.2 = q.2 ∧ r.2.length ≤ 8192 ∧ K.cnt s ≤ 1000000000000) := ⟨hq, hve, hrq, hr8, hcn⟩
  have HDD : Hid (d.dead = false) := hdd
  have HN0 : Hid (∀ X : World, Calls Try.prog 12 #[.int .i64 0] X fun e w' => e = .returned (.int .i64 0) ∧ w' = X) := fun X => num_any 0 X
  obtain ⟨n, hn⟩ : ∃ n, n = d.hs.length := ⟨_, rfl⟩
  have HN : Hid (n = d.hs.length) := hn
  have hin : i < n := by omega
  clear h hd hdd hi hcn hlv hlen hr hq hrq hr8 hB hve hle hn2 hl hn
  go_enter Try.func60, Try.ntmps60
  go_wp2_with fail
  refine Calls.mono HA.out ?_
  rintro e w1 ⟨v1, rfl, ho1, hb1⟩
  have h1 : Held (datE L (v1, r.2) :: d.es L d.x (y.es L d.jb) (kE K s :: R)) w1 := Held.fresh HH.out.1 hb1 (ownsRow_mono ho1 HH.out.2) (fun k hk => (ownsRow_lt ho1 hk).1)
  obtain ⟨a1, cc1, hv1, _⟩ := own_slice ho1
  have hB1 := dk_box h1.drop
  obtain ⟨b9, o9, uo, un, uc, rfl, hq1, hcell, hby⟩ := dk_have h1.drop HQ.out.1 HQ.out.2.1
  have c6 : w1.cell? ⟨d.kb, 6, none⟩ = some (.slice (some ⟨b9, o9, none⟩) n hc) := by rw [HN.out, ← HQ.out.2.1]; exact hB1.cell 6
  have c8 : w1.cell? ⟨d.kb, 8, none⟩ = some (.bool false) := by have := hB1.cell 8; rw [this]; exact congrArg some (congrArg Value.bool HDD.out)
  have c9 : w1.cell? ⟨d.kb, 9, none⟩ = some (.pointer (some ⟨sb, 0, none⟩)) := by have := hB1.cell 9; rw [this, ← hsb]; rfl
  have hbv : By w1 v1 r.2 := own_by ho1
  have hS := same_any w1 hbv hby
  rw [HQ.out.2.2.1, beq_self_eq_true] at hS
  have HS : Hid _ := hS
  have h2 : Held (kE K s :: datE L (v1, r.2) :: d.es L d.x (y.es L d.jb) R) w1 := h1.perm ((List.Perm.cons _ dk_R).trans (List.Perm.swap ..))
  have HP : Hid _ := K.put (s := s) (w := w1) (l := v1) (bs := r.2) (h2.all (kE K s) (List.mem_cons_self ..)) (h2.drop.all (datE L (v1, r.2)) (List.mem_cons_self ..)) (fun g hg hk => h2.apart (k := g) hk (has_cons.2 (.inl hg))) (by have := HQ.out.2.2.2.1; omega) HQ.out.2.2.2.2
  have HF : Hid (∀ (w2 : World) (s' : σ), K.Inv s' w2 → Chg (fun k => K.bl s k ∨ v1.ownBlock = some k) w1 w2 → (∀ k, K.bl s' k → K.bl s k ∨ v1.ownBlock = some k ∨ w1.heap.size ≤ k) → Held (d.es L d.x (y.es L d.jb) (kE K s' :: R)) w2 ∧ Below L w w2) := fun w2 s' p1 p2 p3 => by
    refine ⟨(Held.merge (e' := kE K s') h2 p2 p1 p3).perm dk_R.symm, (hb1.mono HH.out.2).trans (p2.below (Nat.le_trans HH.out.2 hb1.size) (fun k hk => ?_))⟩
    rcases hk with hk | hk
    · exact (K.lt (h2.all (kE K s) (List.mem_cons_self ..)) hk).1
    · exact Nat.le_trans HH.out.2 (ownsRow_lt ho1 hk).1
  subst hv1
  clear ho1 hb1 h1 hB1 hq1 hby hbv hS h2 c1 HA
  go_wp2_with fail
  refine Calls.mono (HN0.out _) ?_
  rintro e wo ⟨rfl, hwo⟩
  replace hwo := hwo.symm
  subst hwo
  go_wp2_with fail
  refine Calls.mono HS.out ?_
  rintro e wo ⟨rfl, hwo⟩
  replace hwo := hwo.symm
  subst hwo
  clear HS
  go_wp2_with fail
  refine Calls.mono HP.out ?_
  rintro e w2 ⟨rfl, s', p1, p2, p3, p4⟩
  have HF2 : Hid _ := HF.out w2 s' p1 p3 p4
  have HP2 : Hid _ := p2
  clear HP HF p1 p2 p3 p4 c6 c8 c9 hcell
  go_wp2_with fail
  go_ret
  exact ⟨rfl, s', HF2.out.1, HP2.out, HF2.out.2⟩
end
end Go.Proofs.Ytcnokgphioigoaa
namespace Go.Proofs.Ytcnokgphioigoaa
open Go.RowKit Go.PlainAid
set_option linter.unusedVariables false
set_option linter.unusedSimpArgs false
set_option maxRecDepth 100000
set_option maxHeartbeats 3200000
section
variable {L : Nat} {d : DK} {y : JV} {R : List (Ent L)}
theorem open_off {p s : Nat} {x : DV} (w : World) (h : DM L p s x w) (ho : x.off = true) : Calls Try.prog 14 #[.pointer (some ⟨p, 0, none⟩)] w fun e w' => e = .returned (.tuple #[.pointer none, .int .i64 200]) ∧ w' = w := by
  have HON : Hid _ := isOn_any w h
  rw [ho] at HON
  clear h ho
  go_enter Try.func14, Try.ntmps14
  go_wp2_with fail
  refine Calls.mono HON.out ?_
  rintro e wo ⟨rfl, hwo⟩
  replace hwo := hwo.symm
  subst hwo
  go_wp2_with fail
  go_ret2
  exact ⟨rfl, rfl⟩
theorem opens_off {J : List (Ent L)} (w : World) (h : Held (d.es L d.x J R) w) (hd : DKO d y) (ho : d.x.off = true) : Calls Try.prog 44 #[.pointer (some ⟨d.kb, 0, none⟩)] w fun e w' => e = .returned (.bool true) ∧ w' = w := by
  have hB := dk_box h
  have c0 : w.cell? ⟨d.kb, 0, none⟩ = some (.pointer (some ⟨d.p, 0, none⟩)) := hB.cell 0
  have c3 : w.cell? ⟨d.kb, 3, none⟩ = some (.bool false) := by have := hB.cell 3; rw [this]; exact congrArg some (congrArg Value.bool (by show d.on = false; rw [hd.eon, ho]; rfl))
  have HO : Hid _ := open_off w (dk_dm h) ho
  have HNM : Hid (∀ X : World, Calls Try.prog 12 #[.int .i64 200] X fun e w' => e = .returned (.int .i64 200) ∧ w' = X) := fun X => num_any 200 X
  clear h hd ho hB
  go_enter Try.func44, Try.ntmps44
  go_wp2_with fail
  refine Calls.mono HO.out ?_
  rintro e wo ⟨rfl, hwo⟩
  replace hwo := hwo.symm
  subst hwo
  go_wp2_with fail
  refine Calls.mono (HNM.out _) ?_
  rintro e wo ⟨rfl, hwo⟩
  replace hwo := hwo.symm
  subst hwo
  go_wp2_with fail
  go_ret
  exact ⟨rfl, rfl⟩
/-- Open anew. -/
theorem opens_on {J : List (Ent L)} (w : World) (h : Held (d.es L d.x J R) w) (hd : DKO d y) (ho : d.x.off = false) : Calls Try.prog 44 #[.pointer (some ⟨d.kb, 0, none⟩)] w fun e w' => e = .returned (.bool true) ∧ ∃ d' y', Held (d'.es L d'.x (y'.es L d'.jb) R) w' ∧ DKO d' y' ∧ DSame d d' ∧ d'.dead = false ∧ d'.x = d.x ∧ Below L w w' := by
  have hon : d.on = true := by rw [hd.eon, ho]; rfl
  have hcs : d.cs = deskC d.p (.pointer (some ⟨d.jb, 0, none⟩)) d.iv true d.left d.torn d.hv d.next d.dead d.sb := by
    show deskC d.p (.pointer (some ⟨d.jb, 0, none⟩)) d.iv d.on d.left d.torn d.hv d.next d.dead d.sb = _
    rw [hon]
  have h1 : Held (boxE L d.kb (deskC d.p (.pointer (some ⟨d.jb, 0, none⟩)) d.iv true d.left d.torn d.hv d.next d.dead d.sb) 64 :: imE L d.iv d.x :: dmE L d.p d.s d.x :: (haveE L d.hv d.hs ++ (J ++ R))) w := by
    rw [← hcs]
    refine h.perm ?_
    unfold DK.es
    refine List.Perm.cons _ ?_
    have e1 := List.perm_middle (a := imE L d.iv d.x) (l₁ := haveE L d.hv d.hs) (l₂ := J ++ (dmE L d.p d.s d.x :: R))
    refine e1.trans (List.Perm.cons _ ?_)
    have e2 := List.perm_middle (a := dmE L d.p d.s d.x) (l₁ := haveE L d.hv d.hs ++ J) (l₂ := R)
    simpa [List.append_assoc] using e2
  refine (opens_any w h1 ho hd.n1 hd.n2).mono ?_
  rintro e w' ⟨rfl, jb, y', k, hv, hs, hF, hJ, hm, hv2, hl2, h2, hb⟩
  obtain ⟨ao, c, hve⟩ := hv2
  have hle : k ≤ (itR d.x.b k).2 ∧ (itR d.x.b k).2 ≤ d.x.n ∧ ∀ bs ∈ (itR d.x.b k).1, bs.length ≤ 8192 := Upto.le hF.1
  refine ⟨rfl, { d with jb := jb, hv := hv, hs := hs, next := (itR d.x.b k).2, dead := false }, y', ?_, ⟨hd.n1, hd.n2, hd.eon, hd.arm, hd.dis, hd.wh, hd.tn, hd.tb, ⟨ao, c, hve⟩, by show hs.length ≤ (itR d.x.b k).2; rw [hl2]; exact hle.1, hle.2.1, fun _ => ⟨hJ.p, hJ.recs.trans hm.symm, hJ.next, hJ.fin, fun r hr => hle.2.2 r.2 (by rw [← hJ.recs]; exact List.mem_map_of_mem hr)⟩⟩, ⟨rfl, rfl, rfl, rfl, rfl⟩, rfl, rfl, hb⟩
  have hcs2 : ({ d with jb := jb, hv := hv, hs := hs, next := (itR d.x.b k).2, dead := false } : DK).cs = deskC d.p (.pointer (some ⟨jb, 0, none⟩)) d.iv true d.left d.torn hv (itR d.x.b k).2 false d.sb := by
    show deskC d.p (.pointer (some ⟨jb, 0, none⟩)) d.iv d.on d.left d.torn hv (itR d.x.b k).2 false d.sb = _
    rw [hon]
  unfold DK.es
  rw [hcs2]
  refine Held.subl h2 ?_
  refine List.Sublist.cons_cons _ (List.Sublist.append (List.Sublist.refl _) (List.Sublist.cons_cons _ (List.Sublist.append (List.Sublist.refl _) (List.Sublist.cons_cons _ ?_))))
  rw [← List.append_assoc]
  exact List.sublist_append_right _ _
end
end Go.Proofs.Ytcnokgphioigoaa
namespace Go.Proofs.Ytcnokgphioigoaa
open Go.RowKit Go.PlainAid
set_option linter.unusedVariables false
set_option linter.unusedSimpArgs false
set_option maxRecDepth 100000
/-- What one call of a script leaves. -/
def PlQ {σ : Type} {L sb : Nat} (K : Keeper σ L sb) (d : DK) (s : σ) (R : List (Ent L)) (w : World) (e : Ending) (w' : World) : Prop := e = .returned (.bool true) ∧ ∃ d' y' s', Held (d'.es L d'.x (JE L d'.jb y' d'.dead) (kE K s' :: R)) w' ∧ DKO d' y' ∧ DSame d d' ∧ d'.x.writes ≤ d.x.writes + 17 ∧ K.cnt s' ≤ K.cnt s + 18 ∧ Below L w w'
section
variable {L : Nat} {d : DK} {y : JV} {xi xi' : DV} {J R R' : List (Ent L)} {E : Ent L} {w w' : World}
theorem dk_perm (hp : R.Perm R') : (d.es L xi J R).Perm (d.es L xi J R') :=
  List.Perm.cons _ (List.Perm.append_left _ (List.Perm.cons _ (List.Perm.append_left _ (List.Perm.cons _ hp))))
theorem dk_drop (h : Held (d.es L xi J (E :: R)) w) : Held (d.es L xi J R) w := (h.perm dk_R).drop
theorem dk_xi (h1 : xi.n = xi'.n) (h2 : xi.b = xi'.b) : d.es L xi J R = d.es L xi' J R := by
  unfold DK.es
  rw [im_congr h1 h2]
theorem dk_dmSet {x' : DV} (h : Held (d.es L xi J R) w) (hD : DM L d.p d.s x' w') (hc : Chg (fun k => k = d.p) w w') : Held (({ d with x := x' } : DK).es L xi J R) w' ∧ Below L w w' := by
  have h1 := dk_j0 h
  have hD0 := dk_dm h
  have hlo := (dmE L d.p d.s d.x).lo w hD0 d.p (Or.inl rfl)
  exact ⟨dk_of0 (Held.at (e' := dmE L d.p d.s x') h1 (hc.mono (fun k _ e => by rw [e]; exact Or.inl rfl)) hD (fun k hk => Or.inl hk)), hc.below (dk_lo h) (fun k hk => by rw [hk]; exact hlo.1)⟩
theorem dk_new {C : Array Value} (h : Held (d.es L xi J R) w) : Held (d.es L xi J (boxE L w.heap.size C 91 :: R)) (w.alloc (.cells C 91)) := by
  have hb : Below w.heap.size w (w.alloc (.cells C 91)) := (Below.refl _ _).alloc (Nat.le_refl _) _
  have h2 : Held (boxE L w.heap.size C 91 :: d.es L xi J R) (w.alloc (.cells C 91)) := Held.fresh h hb ⟨heap_alloc_new w _, dk_lo h⟩ (fun k hk => by have : k = w.heap.size := hk; omega)
  exact h2.perm dk_R.symm
theorem dk_ob {ob : Nat} {C : Array Value} (h : Held (d.es L xi J (boxE L ob C 91 :: R)) w) : Blk w ob C 91 := (Held.boxB (h.perm dk_R))
/-- What the last test of a call needs. -/
theorem fin_facts {J : List (Ent L)} (kb p : Nat) (w2 : World) (h : Held (d.es L d.x J R) w2) (hd : DKO d y) (hkb : d.kb = kb) (hp : d.p = p) : ∃ (ig ic N9 : Nat) (b : Bool), b = d.on ∧
    (∀ W, Below w2.heap.size w2 W → W.cell? ⟨kb, 0, none⟩ = some (.pointer (some ⟨p, 0, none⟩)) ∧ W.cell? ⟨kb, 2, none⟩ = some (.slice (some ⟨ig, 0, none⟩) (N9 * 512) ic) ∧ W.cell? ⟨kb, 3, none⟩ = some (.bool b)) ∧
    (∀ W, Below w2.heap.size w2 W → Calls Try.prog 28 #[.pointer (some ⟨p, 0, none⟩)] W fun e w' => ∃ vo vn vc, e = .returned (.slice vo vn vc) ∧ By w' (.slice vo vn vc) (imgL d.x) ∧ Below w2.heap.size w2 w') ∧
    (∀ (W : World) (vo : Option Addr) (vn vc : Nat), Below w2.heap.size w2 W → By W (.slice vo vn vc) (imgL d.x) → Calls Try.prog 27 #[.slice vo vn vc, .slice (some ⟨ig, 0, none⟩) (N9 * 512) ic] W fun e w' => e = .returned (.bool true) ∧ Below w2.heap.size w2 w') ∧
    (∀ W, Below w2.heap.size w2 W → Calls Try.prog 33 #[.pointer (some ⟨p, 0, none⟩)] W fun e w' => e = .returned (.bool b) ∧ Below w2.heap.size w2 w') := by
  subst hkb hp
  obtain ⟨ig, ic, hie, _, _⟩ := im_lit (dk_im h) hd.n1
  refine ⟨ig, ic, d.x.n, d.on, rfl, fun W hW => ?_, fun W hW => ?_, fun W vo vn vc hW hby => ?_, fun W hW => ?_⟩
  · have hB := dk_box (h.more hW)
    exact ⟨hB.cell 0, by rw [← hie]; exact hB.cell 2, hB.cell 3⟩
  · refine (image_any W (dk_dm (h.more hW))).mono ?_
    rintro e w' ⟨v', rfl, h2, h3⟩
    rw [← imgL_len] at h2
    obtain ⟨vo, vc, rfl, _⟩ := own_slice h2
    exact ⟨vo, _, vc, rfl, own_by h2, hW.trans (h3.mono hW.size)⟩
  · obtain ⟨g9, c9, e9, _, b9⟩ := im_lit (dk_im (h.more hW)) hd.n1
    rw [hie] at e9
    cases e9
    have h8 := same_any W hby b9
    rw [beq_self_eq_true] at h8
    exact h8.mono fun e w' ⟨h1, h2⟩ => ⟨h1, by rw [h2]; exact hW⟩
  · have h8 := isOn_any W (dk_dm (h.more hW))
    rw [← hd.eon] at h8
    exact h8.mono fun e w' ⟨h1, h2⟩ => ⟨h1, by rw [h2]; exact hW⟩
end
end Go.Proofs.Ytcnokgphioigoaa
