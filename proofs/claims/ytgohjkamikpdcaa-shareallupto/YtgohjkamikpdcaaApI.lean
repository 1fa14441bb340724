import Derived.Test.YtgohjkamikpdcaaSm2
import Derived.Test.YtgohjkamikpdcaaMix2
namespace Go.Proofs.Ytgohjkamikpdcaa
open Go.RowKit Go.PlainAid
set_option linter.unusedVariables false
set_option linter.unusedSimpArgs false
theorem wpList_appI {w : World} {ops : Array Oper} {rest : List Oper} {o : Oper} {a : Act} {Q : Exit → Act → World → Prop} (hgd : o.guard = none) (s x : Operand)
    (ho : o.op = .call { callee := .builtin .append, args := #[s, x], argTypes := #[22, 22] })
    (base k : Nat) (v : Value) (zs : List Int) (hs : a.eval s = v) (hown : w.ownsRow base 3 1 v k (zs.map I)) (z : Int) {g : Nat} (hx : a.eval x = .slice (some ⟨g, 0, none⟩) 1 1) (hgs : g = w.heap.size) (hlen : (k + 1) * 8 ≤ 140737488355328) (hbase : base ≤ w.heap.size)
    (h : ∀ v' w', w'.ownsRow base 3 1 v' (k + 1) ((zs ++ [z]).map I) → Grew w w' v v' → (∀ (d : Value) (n base' : Nat) (ys : List Value), n ≤ k → d.ownBlock = v.ownBlock → w.ownsRow base' 3 1 d n ys → w'.ownsRow base' 3 1 d n ys) → wpList Try.prog ops Q rest (a.put o.dst v') w') :
    wpList Try.prog ops Q (o :: rest) a (w.alloc (.cells #[.int .i64 z] 3)) := by
  subst hgs
  refine wpList_appN hgd s x ho base k v zs hs (hown.alloc _) (some ⟨w.heap.size, 0, none⟩) 1 1 [z] hx rfl (by intro h; cases h) (fromI_new w [z] _ _ _ rfl) hlen (by rw [World.size_alloc]; omega) ?_
  intro v' w' h1 h2 h3
  exact h v' w' h1 h2.ofAlloc (fun d n base' ys hn hd hod => h3 d n base' ys hn hd (hod.alloc _))
end Go.Proofs.Ytgohjkamikpdcaa
