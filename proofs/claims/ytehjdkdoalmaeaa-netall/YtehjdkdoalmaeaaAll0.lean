import Derived.Test.YtehjdkdoalmaeaaHolds
namespace Go.Proofs.Ytehjdkdoalmaeaa
open Go.RowKit Go.PlainAid
set_option linter.unusedVariables false
set_option linter.unusedSimpArgs false
structure PSt (L pb hbn hbr room k : Nat) (s : PS) (wr : World) : Prop where
  inv : PInv L pb hbn hbr room s wr
  ag : PAg room s
  full : PFull s
  cnt : PCnt k s
  fl : s.fl = []
/-- One pair, above L. -/
def One (L pb hbn hbr room : Nat) (W0 : World) (k : Nat) (wr : World) : Prop := ∃ s, PSt L pb hbn hbr room k s wr ∧ Below L W0 wr
/-- Two pairs, apart from each other. -/
def Two (L p1 p2 p3 r q1 q2 q3 r' : Nat) (W0 : World) (k : Nat) (wr : World) : Prop := ∃ s t, PSt L p1 p2 p3 r k s wr ∧ PSt L q1 q2 q3 r' k t wr ∧ (∀ b, s.has p1 p2 p3 b → ¬ t.has q1 q2 q3 b) ∧ Below L W0 wr
section
variable {L pb hbn hbr room k : Nat} {s s' : PS} {W0 wr w' : World}
theorem PSt.keep (h : PSt L pb hbn hbr room k s wr) (hk : ∀ b, s.has pb hbn hbr b → w'.heap[b]? = wr.heap[b]?) : PSt L pb hbn hbr room k s w' := ⟨h.inv.keep hk, h.ag, h.full, h.cnt, h.fl⟩
theorem PSt.more (h : PSt L pb hbn hbr room k s wr) : PSt L pb hbn hbr room (k + 1) s wr := ⟨h.inv, h.ag, h.full, h.cnt.more, h.fl⟩
/-- The call's letter lies below L. -/
structure OkOp (L : Nat) (W0 : World) (o : OpA) : Prop where
  size : o.l.bs.length ≤ 1048576
  nil : o.l.ao = none → o.l.bs.length = 0 ∧ o.l.cap = 0
  src : From W0 o.l.ao o.l.bs
  low : 0 < o.l.bs.length → ∀ b q, o.l.ao = some ⟨b, q, none⟩ → b < L
theorem PSt.plays (h : PSt L pb hbn hbr room k s wr) (hb : Below L W0 wr) (hk : k ≤ 3000) (hroom : room ≤ 1024) (hL : L ≤ W0.heap.size) (hLb : L ≤ pb ∧ L ≤ hbn ∧ L ≤ hbr) {o : OpA} (ho : OkOp L W0 o) :
    Calls Try.prog 23 #[.pointer (some ⟨pb, 0, none⟩), .agg (opC o)] wr fun e w' => e = .returned (.bool true) ∧ ∃ s', PSt L pb hbn hbr room (k + 1) s' w' ∧ PStp pb hbn hbr s s' wr w' ∧ Below L W0 w' := by
  have hLw : L ≤ wr.heap.size := Nat.le_trans hL hb.size
  refine (plays_any wr h.inv h.ag h.full h.cnt hk hroom hLw hLb h.fl o ho.size ho.nil (fun h0 => ?_) fun h0 b q e => ?_).mono ?_
  · obtain ⟨b, off, e, hc⟩ := ho.src h0
    exact ⟨b, off, e, fun j u hu => (hb.cell (ho.low h0 b off e)).trans (hc j u hu)⟩
  · have := ho.low h0 b q e
    exact ⟨by omega, fun r => by have := h.inv.ge hLb.1 hLb.2.1 hLb.2.2 b r; omega⟩
  · rintro e w' ⟨rfl, s2, hp⟩
    exact ⟨rfl, s2, ⟨hp.inv, hp.ag, hp.full, hp.cnt, hp.fl⟩, hp.stp, hb.trans (hp.stp.toBelow h.inv hLb.1 hLb.2.1 hLb.2.2 hLw)⟩
theorem PSt.stands (h : PSt L pb hbn hbr room k s wr) : Calls Try.prog 24 #[.pointer (some ⟨pb, 0, none⟩)] wr fun e w' => e = .returned (.bool true) ∧ ∃ q, w' = wr.drewN q := stands_any wr h.inv h.full
theorem PSt.apart (h : PSt L pb hbn hbr room k s wr) (hb : Below L W0 wr) (hk : k ≤ 3000) (hL : L ≤ W0.heap.size) (hLb : L ≤ pb ∧ L ≤ hbn ∧ L ≤ hbr) : Calls Try.prog 25 #[.pointer (some ⟨pb, 0, none⟩)] wr fun e w' => e = .returned (.bool true) ∧ PStp pb hbn hbr s s wr w' ∧ Below L W0 w' := by
  have hLw : L ≤ wr.heap.size := Nat.le_trans hL hb.size
  refine (apart_any wr h.inv h.full h.cnt hk hLw).mono ?_
  rintro e w' ⟨rfl, hst⟩
  exact ⟨rfl, hst, hb.trans (hst.toBelow h.inv hLb.1 hLb.2.1 hLb.2.2 hLw)⟩
end
section
variable {L pb hbn hbr room k : Nat} {W0 wr : World}
theorem One.drewN (h : One L pb hbn hbr room W0 k wr) (q : Nat) : One L pb hbn hbr room W0 k (wr.drewN q) := by
  obtain ⟨s, hs, hb⟩ := h
  exact ⟨s, hs.keep fun _ _ => rfl, ⟨hb.os, hb.tape, hb.output, hb.size, hb.block⟩⟩
theorem One.more (h : One L pb hbn hbr room W0 k wr) : One L pb hbn hbr room W0 (k + 1) wr := by
  obtain ⟨s, hs, hb⟩ := h
  exact ⟨s, hs.more, hb⟩
theorem One.plays (h : One L pb hbn hbr room W0 k wr) (hk : k ≤ 3000) (hroom : room ≤ 1024) (hL : L ≤ W0.heap.size) (hLb : L ≤ pb ∧ L ≤ hbn ∧ L ≤ hbr) {o : OpA} (ho : OkOp L W0 o) :
    Calls Try.prog 23 #[.pointer (some ⟨pb, 0, none⟩), .agg (opC o)] wr fun e w' => e = .returned (.bool true) ∧ One L pb hbn hbr room W0 (k + 1) w' := by
  obtain ⟨s, hs, hb⟩ := h
  refine (hs.plays hb hk hroom hL hLb ho).mono ?_
  rintro e w' ⟨rfl, s', h1, _, h3⟩
  exact ⟨rfl, s', h1, h3⟩
theorem One.stands (h : One L pb hbn hbr room W0 k wr) : Calls Try.prog 24 #[.pointer (some ⟨pb, 0, none⟩)] wr fun e w' => e = .returned (.bool true) ∧ ∃ q, w' = wr.drewN q := by
  obtain ⟨s, hs, hb⟩ := h
  exact hs.stands
theorem One.apart (h : One L pb hbn hbr room W0 k wr) (hk : k ≤ 3000) (hL : L ≤ W0.heap.size) (hLb : L ≤ pb ∧ L ≤ hbn ∧ L ≤ hbr) : Calls Try.prog 25 #[.pointer (some ⟨pb, 0, none⟩)] wr fun e w' => e = .returned (.bool true) ∧ Below L W0 w' := by
  obtain ⟨s, hs, hb⟩ := h
  refine (hs.apart hb hk hL hLb).mono ?_
  rintro e w' ⟨rfl, _, h⟩
  exact ⟨rfl, h⟩
end
section
variable {L p1 p2 p3 r q1 q2 q3 r' k : Nat} {W0 wr : World}
theorem Two.drewN (h : Two L p1 p2 p3 r q1 q2 q3 r' W0 k wr) (q : Nat) : Two L p1 p2 p3 r q1 q2 q3 r' W0 k (wr.drewN q) := by
  obtain ⟨s, t, hs, ht, hd, hb⟩ := h
  exact ⟨s, t, hs.keep fun _ _ => rfl, ht.keep fun _ _ => rfl, hd, ⟨hb.os, hb.tape, hb.output, hb.size, hb.block⟩⟩
theorem Two.swap (h : Two L p1 p2 p3 r q1 q2 q3 r' W0 k wr) : Two L q1 q2 q3 r' p1 p2 p3 r W0 k wr := by
  obtain ⟨s, t, hs, ht, hd, hb⟩ := h
  exact ⟨t, s, ht, hs, fun b h1 h2 => hd b h2 h1, hb⟩
theorem Two.one (h : Two L p1 p2 p3 r q1 q2 q3 r' W0 k wr) : One L p1 p2 p3 r W0 k wr := by
  obtain ⟨s, t, hs, ht, hd, hb⟩ := h
  exact ⟨s, hs, hb⟩
theorem Two.plays (h : Two L p1 p2 p3 r q1 q2 q3 r' W0 k wr) (hk : k ≤ 3000) (hroom : r ≤ 1024) (hL : L ≤ W0.heap.size) (hLb : L ≤ p1 ∧ L ≤ p2 ∧ L ≤ p3) {o : OpA} (ho : OkOp L W0 o) :
    Calls Try.prog 23 #[.pointer (some ⟨p1, 0, none⟩), .agg (opC o)] wr fun e w' => e = .returned (.bool true) ∧ Two L p1 p2 p3 r q1 q2 q3 r' W0 (k + 1) w' := by
  obtain ⟨s, t, hs, ht, hd, hb⟩ := h
  refine (hs.plays hb hk hroom hL hLb ho).mono ?_
  rintro e w' ⟨rfl, s', h1, hst, h3⟩
  refine ⟨rfl, s', t, h1, (ht.keep fun b hq => hst.block b (ht.inv.lt b hq) fun hp => hd b hp hq).more, fun b hp hq => ?_, h3⟩
  rcases hst.has b hp with q | q
  · exact hd b q hq
  · have := ht.inv.lt b hq
    omega
theorem Two.apart (h : Two L p1 p2 p3 r q1 q2 q3 r' W0 k wr) (hk : k ≤ 3000) (hL : L ≤ W0.heap.size) (hLb : L ≤ p1 ∧ L ≤ p2 ∧ L ≤ p3) : Calls Try.prog 25 #[.pointer (some ⟨p1, 0, none⟩)] wr fun e w' => e = .returned (.bool true) ∧ One L q1 q2 q3 r' W0 k w' := by
  obtain ⟨s, t, hs, ht, hd, hb⟩ := h
  refine (hs.apart hb hk hL hLb).mono ?_
  rintro e w' ⟨rfl, hst, h⟩
  exact ⟨rfl, t, ht.keep fun b hq => hst.block b (ht.inv.lt b hq) fun hp => hd b hp hq, h⟩
end
end Go.Proofs.Ytehjdkdoalmaeaa
