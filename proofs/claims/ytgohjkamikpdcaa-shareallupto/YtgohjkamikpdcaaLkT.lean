import Derived.Test.YtgohjkamikpdcaaWh
namespace Go.Proofs.Ytgohjkamikpdcaa
open Go.RowKit Go.PlainAid
set_option linter.unusedVariables false
set_option linter.unusedSimpArgs false
theorem wpList_runs {ops : Array Oper} {rest : List Oper} {o : Oper} {a : Act} {Q : Exit → Act → World → Prop} {w w' : World} (hgd : o.guard = none) (s x : Operand) (t : TypeId) (ho : o.op = .call { callee := .builtin .append, args := #[s, x], argTypes := #[t, t] }) {v y v' : Value} (hs : a.eval s = v) (hx : a.eval x = y)
    (hr : ∀ ty, (Builtin.append_ #[t, t] ty #[v, y]).run Try.prog w = .ok v' w') (h : wpList Try.prog ops Q rest (a.put o.dst v') w') : wpList Try.prog ops Q (o :: rest) a w := by
  refine wpList_plain hgd fun K hK => ?_
  unfold Oper.wp execOp
  simp only [ho, resolve, invoke, builtin, Sem.run_bind, Sem.run_pure, Result.andThen_ok, List.map_toArray, List.map_cons, List.map_nil, hs, hx, hr]
  exact hK _ _ h
theorem app_rows (t e : TypeId) (z : Value) (size bytes : Nat) (ht : Try.prog.underlying t = some (.slice e)) (hinfo : (Try.prog.info? e).map (fun i => (i.zero, i.size, i.bytes)) = some (some z, size, bytes)) (hzz : z.cells.size = size) (hs0 : 1 ≤ size) (hb0 : 0 < bytes)
    {w : World} {base k : Nat} {v : Value} {xs : List Value} (hown : w.ownsRow base e size v k xs) {ao : Option Addr} {m cap : Nat} {ys : List Value} (hys : ys.length = m * size) (hnil : ao = none → m = 0 ∧ cap = 0) (hnews : ∀ ad, ao = some ad → ∀ j u, ys[j]? = some u → w.cell? (ad.add j) = some u) (hone : ∀ u ∈ ys, u.oneCell' = true) (hby2 : (k + m) * bytes ≤ 140737488355328) (hbase : base ≤ w.heap.size) :
    ∃ v' w', (∀ ty, (Builtin.append_ #[t, t] ty #[v, .slice ao m cap]).run Try.prog w = .ok v' w') ∧ w'.ownsRow base e size v' (k + m) (xs ++ ys) ∧ Grew w w' v v' := by
  cases ao with
  | none =>
    obtain ⟨rfl, rfl⟩ := hnil rfl
    obtain ⟨i0, hi, _⟩ := info_parts hinfo
    obtain rfl := List.eq_nil_of_length_eq_zero (by simpa using hys)
    exact ⟨v, w, fun ty => run_append_owned_none w base t ty e i0 size ht hi v k _ hown, by simpa using hown, Grew.refl _ _⟩
  | some ad =>
    obtain ⟨v', w', a, b, c, _⟩ := app_any t e z size bytes ht hinfo hzz hs0 hb0 hown ad m cap ys hys (hnews ad rfl) hone hby2 hbase t
    exact ⟨v', w', fun ty => a, b, c⟩
theorem oneFR (zs : List (Int × Int)) : ∀ u ∈ flatR zs, u.oneCell' = true := by
  intro u hu
  simp only [flatR, List.mem_flatMap, List.mem_cons, List.not_mem_nil, or_false] at hu
  obtain ⟨p, _, rfl | rfl⟩ := hu <;> rfl
/-- An answer that is left as it is. -/
structure LE (α : Type) where
  l : Value
  was : Value
  zs : List α
/-- A keep whose lists are left as they are. -/
structure KL (L kb : Nat) (vI vW vR vX : Value) (es : List (LE Int)) (rs : List (LE (Int × Int))) (w : World) : Prop where
  blk : Blk w kb #[.bool true, vI, vW, .slice none 0 0, vR, vX, .slice none 0 0] 44
  xi : w.ownsRow L 22 1 vI es.length (es.map LE.l)
  xw : w.ownsRow L 22 1 vW es.length (es.map LE.was)
  el : ∀ e ∈ es, w.ownsRow L 3 1 e.l e.zs.length (e.zs.map I)
  ew : ∀ e ∈ es, w.ownsRow L 3 1 e.was e.zs.length (e.zs.map I)
  ln : ∀ e ∈ es, e.zs.length ≤ 1000
  iw : ∀ g, vI.ownBlock = some g → vW.ownBlock ≠ some g
  dj : es.Pairwise fun e f => ∀ g, e.l.ownBlock = some g → f.l.ownBlock ≠ some g
  yi : w.ownsRow L 34 1 vR rs.length (rs.map LE.l)
  yw : w.ownsRow L 34 1 vX rs.length (rs.map LE.was)
  rl : ∀ e ∈ rs, w.ownsRow L 38 2 e.l e.zs.length (flatR e.zs)
  rw' : ∀ e ∈ rs, w.ownsRow L 38 2 e.was e.zs.length (flatR e.zs)
  rn : ∀ e ∈ rs, e.zs.length ≤ 1000
  rx : ∀ g, vR.ownBlock = some g → vX.ownBlock ≠ some g
  rj : rs.Pairwise fun e f => ∀ g, e.l.ownBlock = some g → f.l.ownBlock ≠ some g
  lk : L ≤ kb
def KLB (kb : Nat) (vI vW vR vX : Value) (es : List (LE Int)) (rs : List (LE (Int × Int))) (k : Nat) : Prop := k = kb ∨ vI.ownBlock = some k ∨ vW.ownBlock = some k ∨ vR.ownBlock = some k ∨ vX.ownBlock = some k ∨ (∃ e ∈ es, e.l.ownBlock = some k ∨ e.was.ownBlock = some k) ∨ ∃ e ∈ rs, e.l.ownBlock = some k ∨ e.was.ownBlock = some k
section
variable {L kb : Nat} {vI vW vR vX v' : Value} {es : List (LE Int)} {rs : List (LE (Int × Int))} {w w2 : World} {B : Nat → Prop}
theorem KL.lt (h : KL L kb vI vW vR vX es rs w) {k : Nat} (hk : KLB kb vI vW vR vX es rs k) : L ≤ k ∧ k < w.heap.size := by
  rcases hk with rfl | e | e | e | e | ⟨x, hx, e | e⟩ | ⟨x, hx, e | e⟩
  · exact ⟨h.lk, h.blk.lt⟩
  · exact ownsRow_lt h.xi e
  · exact ownsRow_lt h.xw e
  · exact ownsRow_lt h.yi e
  · exact ownsRow_lt h.yw e
  · exact ownsRow_lt (h.el x hx) e
  · exact ownsRow_lt (h.ew x hx) e
  · exact ownsRow_lt (h.rl x hx) e
  · exact ownsRow_lt (h.rw' x hx) e
theorem KL.frame (h : KL L kb vI vW vR vX es rs w) (hc : Chg B w w2) (hB : ∀ k, KLB kb vI vW vR vX es rs k → ¬ B k) : KL L kb vI vW vR vX es rs w2 := by
  have hs := fun k (hk : KLB kb vI vW vR vX es rs k) => hc.block k (h.lt hk).2 (hB k hk)
  exact ⟨hc.blk h.blk (hB kb (.inl rfl)), ownsRow_same h.xi (fun g e => hs g (.inr (.inl e))), ownsRow_same h.xw (fun g e => hs g (.inr (.inr (.inl e)))), fun x hx => ownsRow_same (h.el x hx) (fun g e => hs g (.inr (.inr (.inr (.inr (.inr (.inl ⟨x, hx, .inl e⟩))))))), fun x hx => ownsRow_same (h.ew x hx) (fun g e => hs g (.inr (.inr (.inr (.inr (.inr (.inl ⟨x, hx, .inr e⟩))))))), h.ln, h.iw, h.dj, ownsRow_same h.yi (fun g e => hs g (.inr (.inr (.inr (.inl e))))), ownsRow_same h.yw (fun g e => hs g (.inr (.inr (.inr (.inr (.inl e)))))), fun x hx => ownsRow_same (h.rl x hx) (fun g e => hs g (.inr (.inr (.inr (.inr (.inr (.inr (⟨x, hx, .inl e⟩)))))))), fun x hx => ownsRow_same (h.rw' x hx) (fun g e => hs g (.inr (.inr (.inr (.inr (.inr (.inr (⟨x, hx, .inr e⟩)))))))), h.rn, h.rx, h.rj, h.lk⟩
theorem KL.more (h : KL L kb vI vW vR vX es rs w) (hb : Below w.heap.size w w2) : KL L kb vI vW vR vX es rs w2 := h.frame (Chg.ofBelow (fun _ => False) hb) (fun _ _ e => e)
end
/-- One more list behind the others. -/
theorem app_sl22 {w : World} {base : Nat} {v : Value} {xs : List Value} (x : Value) (hx : x.oneCell' = true) (hown : w.ownsRow base 22 1 v xs.length xs) (hb : base ≤ w.heap.size) (hl : xs.length ≤ 1000000000000) :
    ∃ v' w', (∀ ty, (Builtin.append_ #[41, 41] ty #[v, .slice (some ⟨w.heap.size, 0, none⟩) 1 1]).run Try.prog (w.alloc (.cells #[x] 22)) = .ok v' w') ∧ w'.ownsRow base 22 1 v' (xs.length + 1) (xs ++ [x]) ∧ Grew w w' v v' := by
  obtain ⟨v5, w5, hr5, ho5, hg5, hin5⟩ := app_any (w := w.alloc (.cells #[x] 22)) 41 22 (.slice none 0 0) 1 24 Try.underlying41 info22 rfl (by decide) (by decide) (hown.alloc _) ⟨w.heap.size, 0, none⟩ 1 1 [x] rfl (fun j uu hu => by
    have hB : Blk (w.alloc (.cells #[x] 22)) w.heap.size #[x] 22 := heap_alloc_new w _
    rw [addr_add, Nat.zero_add, hB.cell j]
    simpa using hu) (fun uu hu => by rw [List.mem_singleton.1 hu]; exact hx) (by omega) (by rw [World.size_alloc]; omega) 22
  exact ⟨v5, w5, fun ty => hr5, ho5, hg5.ofAlloc⟩
/-- One more list behind the others. -/
theorem app_sl34 {w : World} {base : Nat} {v : Value} {xs : List Value} (x : Value) (hx : x.oneCell' = true) (hown : w.ownsRow base 34 1 v xs.length xs) (hb : base ≤ w.heap.size) (hl : xs.length ≤ 1000000000000) :
    ∃ v' w', (∀ ty, (Builtin.append_ #[42, 42] ty #[v, .slice (some ⟨w.heap.size, 0, none⟩) 1 1]).run Try.prog (w.alloc (.cells #[x] 34)) = .ok v' w') ∧ w'.ownsRow base 34 1 v' (xs.length + 1) (xs ++ [x]) ∧ Grew w w' v v' := by
  obtain ⟨v5, w5, hr5, ho5, hg5, hin5⟩ := app_any (w := w.alloc (.cells #[x] 34)) 42 34 (.slice none 0 0) 1 24 Try.underlying42 info34 rfl (by decide) (by decide) (hown.alloc _) ⟨w.heap.size, 0, none⟩ 1 1 [x] rfl (fun j uu hu => by
    have hB : Blk (w.alloc (.cells #[x] 34)) w.heap.size #[x] 34 := heap_alloc_new w _
    rw [addr_add, Nat.zero_add, hB.cell j]
    simpa using hu) (fun uu hu => by rw [List.mem_singleton.1 hu]; exact hx) (by omega) (by rw [World.size_alloc]; omega) 34
  exact ⟨v5, w5, fun ty => hr5, ho5, hg5.ofAlloc⟩
end Go.Proofs.Ytgohjkamikpdcaa
