import Derived.Test.YtmnihombiabkgaaPl
namespace Go.Proofs.Ytmnihombiabkgaa
open Go.RowKit Go.PlainAid
set_option linter.unusedVariables false
set_option linter.unusedSimpArgs false
/-- An answer that is left as it is. -/
structure LE where
  l : Value
  was : Value
  zs : List Tm
/-- A keep whose lists are left as they are. -/
structure KL (L kb : Nat) (vI vW : Value) (es : List LE) (w : World) : Prop where
  blk : Blk w kb #[.bool true, vI, vW, .slice none 0 0] 64
  xi : w.ownsRow L 33 1 vI es.length (es.map LE.l)
  xw : w.ownsRow L 33 1 vW es.length (es.map LE.was)
  el : ∀ e ∈ es, w.ownsRow L 50 4 e.l e.zs.length (flatT e.zs)
  ew : ∀ e ∈ es, w.ownsRow L 50 4 e.was e.zs.length (flatT e.zs)
  ln : ∀ e ∈ es, e.zs.length ≤ 1000
  iw : ∀ g, vI.ownBlock = some g → vW.ownBlock ≠ some g
  dj : es.Pairwise fun e f => ∀ g, e.l.ownBlock = some g → f.l.ownBlock ≠ some g
  lk : L ≤ kb
def KLB (kb : Nat) (vI vW : Value) (es : List LE) (k : Nat) : Prop := k = kb ∨ vI.ownBlock = some k ∨ vW.ownBlock = some k ∨ ∃ e ∈ es, e.l.ownBlock = some k ∨ e.was.ownBlock = some k
section
variable {L kb : Nat} {vI vW v' : Value} {es : List LE} {w w2 : World} {B : Nat → Prop}
theorem KL.lt (h : KL L kb vI vW es w) {k : Nat} (hk : KLB kb vI vW es k) : L ≤ k ∧ k < w.heap.size := by
  rcases hk with rfl | e | e | ⟨x, hx, e | e⟩
  · exact ⟨h.lk, h.blk.lt⟩
  · exact ownsRow_lt h.xi e
  · exact ownsRow_lt h.xw e
  · exact ownsRow_lt (h.el x hx) e
  · exact ownsRow_lt (h.ew x hx) e
theorem KL.frame (h : KL L kb vI vW es w) (hc : Chg B w w2) (hB : ∀ k, KLB kb vI vW es k → ¬ B k) : KL L kb vI vW es w2 := by
  have hs := fun k (hk : KLB kb vI vW es k) => hc.block k (h.lt hk).2 (hB k hk)
  exact ⟨hc.blk h.blk (hB kb (.inl rfl)), ownsRow_same h.xi (fun g e => hs g (.inr (.inl e))), ownsRow_same h.xw (fun g e => hs g (.inr (.inr (.inl e)))), fun x hx => ownsRow_same (h.el x hx) (fun g e => hs g (.inr (.inr (.inr ⟨x, hx, .inl e⟩)))), fun x hx => ownsRow_same (h.ew x hx) (fun g e => hs g (.inr (.inr (.inr ⟨x, hx, .inr e⟩)))), h.ln, h.iw, h.dj, h.lk⟩
end
/-- One more list behind the others. -/
theorem app_sl {w : World} {base : Nat} {v : Value} {xs : List Value} (x : Value) (hx : x.oneCell' = true) (hown : w.ownsRow base 33 1 v xs.length xs) (hb : base ≤ w.heap.size) (hl : xs.length ≤ 1000000) :
    ∃ v' w', (∀ ty, (Builtin.append_ #[56, 56] ty #[v, .slice (some ⟨w.heap.size, 0, none⟩) 1 1]).run Try.prog (w.alloc (.cells #[x] 33)) = .ok v' w') ∧ w'.ownsRow base 33 1 v' (xs.length + 1) (xs ++ [x]) ∧ Grew w w' v v' := by
  obtain ⟨v5, w5, hr5, ho5, hg5, hin5⟩ := app_any (w := w.alloc (.cells #[x] 33)) 56 33 (.slice none 0 0) 1 24 Try.underlying56 info33 rfl (by decide) (by decide) (hown.alloc _) ⟨w.heap.size, 0, none⟩ 1 1 [x] rfl (fun j uu hu => by
    have hB : Blk (w.alloc (.cells #[x] 33)) w.heap.size #[x] 33 := heap_alloc_new w _
    rw [addr_add, Nat.zero_add, hB.cell j]
    simpa using hu) (fun uu hu => by rw [List.mem_singleton.1 hu]; exact hx) (by omega) (by rw [World.size_alloc]; omega) 33
  exact ⟨v5, w5, fun ty => hr5, ho5, hg5.ofAlloc⟩
end Go.Proofs.Ytmnihombiabkgaa
