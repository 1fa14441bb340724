import Derived.Test.YtifgmefdlmjocaaLt3
import Derived.Test.YtifgmefdlmjocaaSt0
namespace Go.Proofs.Ytifgmefdlmjocaa
open Go.RowKit Go.PlainAid
set_option linter.unusedVariables false
set_option linter.unusedSimpArgs false
theorem right_sane {e : Ent} (h : e.right = true) : e.sane := by
  unfold Ent.right at h
  simp only [Bool.and_eq_true, decide_eq_true_eq, nameB] at h
  obtain ⟨⟨⟨⟨⟨⟨⟨n1, n2⟩, _⟩, c1⟩, c2⟩, _⟩, _⟩, f⟩ := h
  unfold fitsL at f
  split at f
  · cases f
  · unfold fitsL at f
    split at f
    · cases f
    · exact ⟨by omega, by omega, by omega, by omega⟩
theorem right_down {e : Ent} (h : e.right = true) : 0 ≤ e.d ∧ e.d ≤ 1099511627776 := by
  unfold Ent.right at h
  simp only [Bool.and_eq_true, decide_eq_true_eq, nameB] at h
  obtain ⟨⟨⟨⟨⟨_, c1⟩, c2⟩, _⟩, _⟩, f⟩ := h
  unfold fitsL at f
  split at f
  · cases f
  · omega
theorem row_map {w w' : World} {B mb : Nat} {L ds : List Ent} {v : Value} (hm : HMap w mb L) (hc : Chg (fun k => k = mb) w w') (ho : w.ownsRow B 46 7 v ds.length (flatV ds)) : w'.ownsRow B 46 7 v ds.length (flatV ds) :=
  ownsRow_same ho (fun g e => hc.block g (ownsRow_lt ho e).2 (fun eg => by
    obtain ⟨cu, hcu⟩ := ownsRow_type ho e
    exact hm.ne_b (show Blk w g cu 46 from hcu) eg))
theorem row_more {w w' : World} {B : Nat} {ds : List Ent} {v : Value} (hb : Below w.heap.size w w') (ho : w.ownsRow B 46 7 v ds.length (flatV ds)) : w'.ownsRow B 46 7 v ds.length (flatV ds) := ownsRow_same ho (fun g e => hb.block g (ownsRow_lt ho e).2)
/-- The last digest has been taken. -/
def LRel3 (L tb vr vc h0 m0 h1 m1 n : Nat) (W : World) (vo vl : Value) (dso dl : List Ent) (wr : World) : Prop := ∃ L0 hv Hs, TK L tb vr vc h0 m0 h1 m1 n L0 dl hv Hs wr ∧ Below W.heap.size W wr ∧ wr.ownsRow 0 46 7 vo dso.length (flatV dso) ∧ wr.ownsRow 0 46 7 vl dl.length (flatV dl)
section
variable {L tb vr vc h0 m0 h1 m1 n k : Nat} {W wr w' : World} {vo vl : Value} {dso dl L0 L1 : List Ent}
theorem LRel3.more (h : LRel3 L tb vr vc h0 m0 h1 m1 n W vo vl dso dl wr) (hb : Below wr.heap.size wr w') : LRel3 L tb vr vc h0 m0 h1 m1 n W vo vl dso dl w' := by
  obtain ⟨L0, hv, Hs, hT, hbel, r1, r2⟩ := h
  exact ⟨L0, hv, Hs, hT.more hb, hbel.trans (hb.mono hbel.size), row_more hb r1, row_more hb r2⟩
theorem take_call {LA : List Ent} {hv : Nat → Value} {Hs : Nat → List Ent} (hT : TK L tb vr vc h0 m0 h1 m1 n L0 LA hv Hs wr) (hLA : LA.length ≤ 4) {B : Nat} {v : Value} {ds : List Ent} (ho : wr.ownsRow B 46 7 v ds.length (flatV ds)) {L' : List Ent} (hd : Dg0 k L' ds) (hc : takeCode 1 n 0 LA ds = 0) {LN : List Ent} {c : Nat} (hx : takeNext 1 n 0 LA ds = (LN, c)) :
    Calls Try.prog 19 #[.pointer (some ⟨h1, 0, none⟩), .int .i64 0, v] wr fun e w' => e = .returned (.tuple #[.int .i64 (c : Nat), .int .i64 0]) ∧ TK L tb vr vc h0 m0 h1 m1 n L0 LN hv Hs w' ∧ Chg (fun k => k = m1) wr w' := by
  obtain ⟨ao, cap, rfl, h1', h2, hf, hg⟩ := own_fromV ho
  refine (take_any (me := 1) (M := n) 0 ao ds.length cap ds wr hT.v1 (by omega) rfl (by have := hd.len; unfold maxLen; omega) hf (fun e he => right_sane ((dgB_iff.1 hd.dig).1 e he)) (fun b off e => ?_)).mono ?_
  · rw [e] at ho
    rcases ho.2 with ⟨h, _⟩ | ⟨g, c', cur, h, _, hgb, _⟩
    · cases h
    · cases h
      exact hT.v1.map.ne_b (show Blk wr _ cur 46 from hgb)
  · rintro e w' ⟨rfl, hV, hch⟩
    rw [hc, hx]
    rw [hx] at hV
    exact ⟨rfl, hT.take hV hch, hch⟩
theorem take_rel (h : LRel3 L tb vr vc h0 m0 h1 m1 n W vo vl dso dl wr) (hLW : W.heap.size ≤ L) (hdl : dl.length ≤ 4) {B : Nat} {v : Value} {ds : List Ent} (ho : wr.ownsRow B 46 7 v ds.length (flatV ds)) {L' : List Ent} (hd : Dg0 k L' ds) (hc : takeCode 1 n 0 dl ds = 0) (hx : takeNext 1 n 0 dl ds = (dl, 0)) :
    Calls Try.prog 19 #[.pointer (some ⟨h1, 0, none⟩), .int .i64 0, v] wr fun e w' => e = .returned (.tuple #[.int .i64 0, .int .i64 0]) ∧ LRel3 L tb vr vc h0 m0 h1 m1 n W vo vl dso dl w' := by
  obtain ⟨L0, hv, Hs, hT, hbel, r1, r2⟩ := h
  refine (take_call hT hdl ho hd hc hx).mono ?_
  rintro e w' ⟨rfl, hT', hch⟩
  exact ⟨rfl, L0, hv, Hs, hT', hbel.trans ((hch.below hT.low (fun k e => by rw [e]; exact hT.lo.2.2)).mono hLW), row_map hT.v1.map hch r1, row_map hT.v1.map hch r2⟩
theorem about_rel (h : LRel3 L tb vr vc h0 m0 h1 m1 n W vo vl dso dl wr) (hn : 2 ≤ n ∧ n ≤ 8) (hd : Dg0 k L1 dl) {e : Ent} (he : e ∈ dl) :
    Calls Try.prog 15 #[.pointer (some ⟨h1, 0, none⟩), .string ⟨e.n.toArray⟩] wr fun r w' => r = .returned (.tuple #[.int .i64 e.d, .bool true]) ∧ Below wr.heap.size wr w' := by
  obtain ⟨L0, hv, Hs, hT, hbel, r1, r2⟩ := h
  have := about_any (N := n) e.n wr hT.v1 (by omega) (fun x hx => right_down ((dgB_iff.1 hd.dig).1 x hx))
  obtain ⟨a1, a2⟩ := about_is hd he (n - 1)
  rw [show n - 1 + 1 = n by omega] at a1 a2
  rw [a1, a2] at this
  exact this
end
end Go.Proofs.Ytifgmefdlmjocaa
