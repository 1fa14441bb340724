import Derived.Test.YtjojhhkbebddmaaJoinL
import Derived.Test.YtjojhhkbebddmaaJoinM
namespace Go.Proofs.Ytjojhhkbebddmaa
open Go.RowKit Go.PlainAid
set_option linter.unusedVariables false
set_option linter.unusedSimpArgs false
/-- The shelf that leaves all as it is, until the end. -/
def late (L kb : Nat) : Keeper Lt.LS L kb where
  Inv s w := Lt.KL L kb s w
  bl s := Lt.KLB kb s
  cnt s := s.e.length + s.r.length
  lt h hk := h.lt hk
  low h := Nat.le_trans h.lk (Nat.le_of_lt h.blk.lt)
  frame h hc hB := h.frame hc hB
  putA {s w l al} h hl hap hn hc := Lt.put_lateA w h hl ⟨al, rfl, rfl⟩ hap hn (by omega)
  putE {s w l es} h hl hap hn hc := Lt.put_lateE w h hl ⟨es, rfl, rfl⟩ hap hn (by omega)
  whole {s w} h hc := Lt.whole_late w h (by omega) (by omega)
theorem Lt.LM.fr {F : Fam} {G : Nat → List Value → Prop} {L : Nat} {vI vW : Value} {es : List Lt.LE} {w w2 : World} (h : Lt.LM F G L vI vW es w) (hs : ∀ k, Lt.LMB vI vW es k → w2.heap[k]? = w.heap[k]?) : Lt.LM F G L vI vW es w2 :=
  ⟨ownsRow_same h.xi (fun g e => hs g (.inl e)), ownsRow_same h.xw (fun g e => hs g (.inr (.inl e))), fun x hx => ownsRow_same (h.el x hx) (fun g e => hs g (.inr (.inr ⟨x, hx, .inl e⟩))), fun x hx => ownsRow_same (h.ew x hx) (fun g e => hs g (.inr (.inr ⟨x, hx, .inr e⟩))), h.ln, h.gd, h.iw, h.dj⟩
theorem late_fr (L kb : Nat) : KFr (late L kb) := ⟨fun s w w' h (hP : Lt.KL L kb s w) => show Lt.KL L kb s w' from ⟨(h kb (.inl rfl)).trans hP.blk, Lt.LM.fr hP.b (fun k hk => h k (.inr (.inl hk))), Lt.LM.fr hP.v (fun k hk => h k (.inr (.inr hk))), hP.lk⟩⟩
theorem lm0 (F : Fam) (G : Nat → List Value → Prop) (L : Nat) (W : World) : Lt.LM F G L (.slice none 0 0) (.slice none 0 0) [] W :=
  ⟨World.ownsRow_nil _ _ _ _, World.ownsRow_nil _ _ _ _, fun e he => (by cases he), fun e he => (by cases he), fun e he => (by cases he), fun e he => (by cases he), fun g e => (by cases e), List.Pairwise.nil⟩
def lateF (L : Nat) : KFam Lt.LS L true where
  K := late L
  fr := late_fr L
  s0 := ⟨.slice none 0 0, .slice none 0 0, .slice none 0 0, .slice none 0 0, [], []⟩
  inv0 kb W hB hl := show Lt.KL L kb _ W from ⟨hB, lm0 _ _ _ _, lm0 _ _ _ _, hl⟩
  bl0 kb k hk := by
    have hk' : Lt.KLB kb ⟨.slice none 0 0, .slice none 0 0, .slice none 0 0, .slice none 0 0, [], []⟩ k := hk
    rcases hk' with q | q | q
    · exact q
    · rcases q with q | q | ⟨x, hx, q⟩
      · cases q
      · cases q
      · cases hx
    · rcases q with q | q | ⟨x, hx, q⟩
      · cases q
      · cases q
      · cases hx
  cnt0 kb := rfl
set_option maxRecDepth 100000 in
set_option maxHeartbeats 1600000 in
theorem all_law (z0 z1 z2 z3 : Int) (ao : Option Addr) (nn cv : Nat) (xs : List Cl) (W : World) (hxs : ScrIn W ao xs) (hn : xs.length = nn) (hnn : nn ≤ 1048576) : Calls Try.prog 8 #[.int .i64 z0, .int .i64 z1, .int .i64 z2, .int .i64 z3, .slice ao nn cv] W fun e W' => e = .returned (.bool true) ∧ Below W.heap.size W W' := by
  have HP : Hid _ := plays_any z0 z1 z2 z3 1 6 ao nn cv xs W (earlyF W.heap.size) hxs hn hnn
  have HQ : Hid (∀ W2 : World, Below W.heap.size W W2 → Calls Try.prog 14 #[.int .i64 z0, .int .i64 z1, .int .i64 z2, .int .i64 z3, .slice ao nn cv, .int .i64 1, .int .i64 6, .bool true] W2 fun e W' => e = .returned (.bool true) ∧ Below W2.heap.size W2 W') := fun W2 h2 =>
    plays_any z0 z1 z2 z3 1 6 ao nn cv xs W2 (lateF W2.heap.size) (fun i c hc => by
      obtain ⟨b, o, e, hb, hh⟩ := hxs i c hc
      refine ⟨b, o, e, Nat.lt_of_lt_of_le hb h2.size, fun j v hv => ?_⟩
      have h0 := hh j v hv
      have hbk := h2.block b hb
      unfold World.cell? at h0 ⊢
      rw [hbk]
      exact h0) hn hnn
  clear hxs hn hnn
  go_enter Try.func8, Try.ntmps8
  go_wp2_with (first
    | (have q := hb1; go_at_call 14; refine Calls.mono (HQ.out _ hb1) ?_; rintro e w2 ⟨rfl, hb2⟩)
    | (go_at_call 14; refine Calls.mono HP.out ?_; rintro e w1 ⟨rfl, hb1⟩)
    | fail)
  go_ret
  exact ⟨rfl, Below.trans hb1 (hb2.mono hb1.size)⟩
end Go.Proofs.Ytjojhhkbebddmaa
