import Derived.Test.YtjojhhkbebddmaaL6
namespace Go.Proofs.Ytjojhhkbebddmaa
open Go.RowKit Go.PlainAid
set_option linter.unusedVariables false
set_option linter.unusedSimpArgs false
/-- A call of the law's script. -/
structure Cl where
  who : Int
  kind : Int
  lim : Int
  rts : Int
  hld : Int
  all : Bool
  own : Bool
  frm : Int
  e : Ep
  o : Ep
def Cl.cells (c : Cl) : Array Value := #[.int .i64 c.who, .int .i64 c.kind, .int .i64 c.lim, .int .i64 c.rts, .int .i64 c.hld, .bool c.all, .bool c.own, .int .i64 c.frm, .int .i64 c.e.r, .int .i64 c.e.k, .int .i64 c.o.r, .int .i64 c.o.k]
def RV.sz (r : RV) : Nat := r.kn.length + r.ov.length + r.nt.length
section
variable {σ : Type} {L kb pb mb cb : Nat} {K : Keeper σ L kb} {hK : KFr K} {s : σ} {x x' : EV} {g g' : RG} {r r' : RV} {R F : List (Ent L)} {own0 : Nat → Prop} {w0 w w' : World}
theorem pES.mach (h : AS own0 w0 (F ++ pES K hK s pb mb cb x g r R) w) (hm : MM L mb cb x' [] w') (hc : Chg (mown mb cb) w w') : AS own0 w0 (F ++ pES K hK s pb mb cb x' g r R) w' := by
  have e : ∀ y : EV, F ++ pES K hK s pb mb cb y g r R = (F ++ [kE K hK s, boxE L pb #[.pointer (some ⟨mb, 0, none⟩), .pointer (some ⟨g.rb, 0, none⟩)] 69]) ++ mE L mb cb y :: (rE L g r :: R) := fun y => by simp [pES]
  rw [e x] at h
  rw [e x']
  exact AS.at (e := mE L mb cb x) (e' := mE L mb cb x') h hc hm (fun k hk => .inl hk)
theorem pES.ref (h : AS own0 w0 (F ++ pES K hK s pb mb cb x g r R) w) (hm : RM L g' r' w') (hs : RStp g g' w w') : AS own0 w0 (F ++ pES K hK s pb mb cb x g' r' R) w' := by
  have e : ∀ (h : RG) (q : RV), h.rb = g.rb → F ++ pES K hK s pb mb cb x h q R = (F ++ [kE K hK s, boxE L pb #[.pointer (some ⟨mb, 0, none⟩), .pointer (some ⟨g.rb, 0, none⟩)] 69, mE L mb cb x]) ++ rE L h q :: R := fun h q hq => by simp [pES, hq]
  rw [e g r rfl] at h
  rw [e g' r' hs.1]
  exact AS.at (e := rE L g r) (e' := rE L g' r') h hs.2.1 hm hs.2.2
theorem pES.rowT {v : Value} {n : Nat} {xs : List Value} {b0 : Nat} (h : AS own0 w0 (pES K hK s pb mb cb x' g r R) w') (hl : ∀ k, has (pES K hK s pb mb cb x g r R) k → k < b0) (hb : w0.heap.size ≤ b0) (hL : L ≤ b0) (hr : w'.ownsRow b0 56 6 v n xs) : AS own0 w0 (rowE L 56 6 v n xs :: pES K hK s pb mb cb x' g r R) w' :=
  h.row (fun k hk => .inl (hl k (by
    unfold pES at hk ⊢
    rw [has_cons, has_cons, has_cons] at hk ⊢
    exact hk))) hb hL hr
theorem pES.lw (h : AS own0 w0 (pES K hK s pb mb cb x g r R) w) : L ≤ w.heap.size ∧ w0.heap.size ≤ w.heap.size := ⟨K.low (pES.kp h), h.chg.size⟩
/-- What the machine has answered, and what it has become. -/
theorem pES.step {v : Value} {al : List Ac} (h : AS own0 w0 (pES K hK s pb mb cb x g r R) w) (hr : w'.ownsRow w.heap.size 56 6 v al.length (flatA al)) (hm : MM L mb cb x' [] w') (hc : Chg (mown mb cb) w w') : AS own0 w0 (rowE L 56 6 v al.length (flatA al) :: pES K hK s pb mb cb x' g r R) w' := by
  have h2 : AS own0 w0 (pES K hK s pb mb cb x' g r R) w' := by
    have := pES.mach (F := []) (show AS own0 w0 ([] ++ pES K hK s pb mb cb x g r R) w from h) hm hc
    exact this
  exact pES.rowT (x := x) h2 (fun k hk => (h.h.typ hk).2) (pES.lw h).2 (pES.lw h).1 hr
end
theorem turnA_len (x : EV) (b : Ep) : (turnA x b).length ≤ 3 := by
  unfold turnA
  split
  · simp
  · split
    · simp
    · split <;> simp
theorem begA_len (x : EV) (l r h : Int) (q : Bool) : (begA x l r h q).length ≤ 3 := by
  unfold begA
  split
  · split <;> simp
  · simp
theorem lookA_len (x : EV) (l r h : Int) : (lookA x l r h).length ≤ 3 := by
  unfold lookA
  split <;> simp
theorem turnR_sz (x : EV) (r : RV) : (turnR x r).sz ≤ r.sz + 1 := by
  unfold turnR RV.sz
  split
  · simp; omega
  · omega
theorem toldR_sz (x : EV) (r : RV) (e : Ep) : (toldR x r e).sz ≤ r.sz + 1 := by
  unfold toldR RV.sz
  split
  · simp; omega
  · omega
theorem endR_sz (x : EV) (r : RV) (e : Ep) : (endR x r e).sz ≤ r.sz + 2 := by
  unfold endR RV.sz
  split
  · simp; omega
  · omega
theorem enR_sz (x : EV) (r : RV) (e o : Ep) : (enR x r e o).sz ≤ r.sz + 4 := by
  unfold enR
  have h1 := turnR_sz (hearK (endK x e) o) (toldR (endK x e) (endR x r e) o)
  have h2 := toldR_sz (endK x e) (endR x r e) o
  have h3 := endR_sz x r e
  omega
theorem begR_sz (x : EV) (r : RV) (l r' h : Int) (q : Bool) : (begR x r l r' h q).sz ≤ r.sz + 1 := by
  unfold begR RV.sz
  split
  · simp; omega
  · omega
theorem repR_sz (x : EV) (r : RV) (f : Int) (e : Ep) (h : Int) : (repR x r f e h).sz ≤ r.sz + 1 := by
  unfold repR RV.sz
  split
  · simp; omega
  · omega
theorem finR_sz (x : EV) (r : RV) : (finR x r).sz ≤ r.sz + 2 := by
  unfold finR
  split
  · omega
  · have h1 := turnR_sz (endX x) { r with ov := r.ov ++ [liveE x x.me] }
    have h2 : ({ r with ov := r.ov ++ [liveE x x.me] } : RV).sz = r.sz + 1 := by unfold RV.sz; simp; omega
    omega
theorem begX_nm {x : EV} (hx : x.Nm) (l r h : Int) (q : Bool) : (begX x l r h q).Nm := by
  unfold begX
  split
  · exact hx.begY q
  · exact hx
theorem enX_nm {x : EV} (hx : x.Nm) (e o : Ep) : (enX x e o).Nm := ((hx.endK e).hearK o).turnX _
theorem finX_nm {x : EV} (hx : x.Nm) : (finX x).Nm := hx.endX.turnX _
end Go.Proofs.Ytjojhhkbebddmaa
