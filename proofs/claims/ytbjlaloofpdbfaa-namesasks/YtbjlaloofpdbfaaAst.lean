import Derived.Test.YtbjlaloofpdbfaaStd
import Derived.Test.YtbjlaloofpdbfaaP3
namespace Go.Proofs.Ytbjlaloofpdbfaa
open Go.RowKit Go.PlainAid
set_option linter.unusedVariables false
set_option linter.unusedSimpArgs false
/-- What does not change of a pair: where it lies. -/
structure PA where
  S0 : Nat
  pb : Nat
  hb : Nat
  mh : Nat
  mw : Nat
  B : Nat
  rb : Nat
  me : Int
  rep : Int
  per : Int
def KNm (rep : Int) (KL : List (List UInt8)) : List (List UInt8 × Int) := KL.map fun n => (n, homeN n rep)
/-- A pair within one of its calls: the cells of its box, the slices that are its own; since the world w0. -/
structure AS (a : PA) (kl wl : Value) (KL : List (List UInt8)) (WT WL : List ((Int × Int) × OpA)) (own0 : Nat → Prop) (w0 : World) (C : Array Value) (es : List (Ent a.S0)) (w : World) : Prop where
  p : Blk w a.pb C 67
  t : Tb a.hb a.mh a.mw a.me a.rep a.per (KNm a.rep KL) WT w
  r : RT a.B a.rb kl wl a.me a.rep a.per KL WL w
  h : Held es w
  ra : ∀ k, RA a.rb kl wl k → ¬ has es k
  chg : Chg own0 w0 w
  new : ∀ k, has es k → own0 k ∨ w0.heap.size ≤ k
  op : own0 a.pb
section
variable {a : PA} {kl wl : Value} {KL : List (List UInt8)} {WT WL : List ((Int × Int) × OpA)} {own0 : Nat → Prop} {w0 w w' : World} {C : Array Value} {es es' R : List (Ent a.S0)} {e e' : Ent a.S0}
theorem AS.ne (h : AS a kl wl KL WT WL own0 w0 C es w) {k : Nat} (hk : has es k) : k ≠ a.pb ∧ k ≠ a.hb ∧ k ≠ a.mh ∧ k ≠ a.mw ∧ ¬ RA a.rb kl wl k := by
  obtain ⟨_, _, D, T, hB, hT⟩ := h.h.typ hk
  have n : ∀ {b : Nat} {D' : Array Value} {U : TypeId}, Blk w b D' U → U ≠ 9 → U ≠ 37 → U ≠ 51 → U ≠ 45 → U ≠ 3 → k ≠ b := fun hB' h1 h2 h3 h4 h5 => by
    refine Blk.ne_t hB hB' ?_
    rcases hT with rfl | rfl | rfl | rfl | rfl
    · exact h1.symm
    · exact h2.symm
    · exact h3.symm
    · exact h4.symm
    · exact h5.symm
  exact ⟨n h.p (by decide) (by decide) (by decide) (by decide) (by decide), n h.t.blk (by decide) (by decide) (by decide) (by decide) (by decide), h.t.hm.ne_b hB, h.t.wm.ne_b hB, fun e => h.ra k e hk⟩
theorem AS.keepT (h : AS a kl wl KL WT WL own0 w0 C es w) {A : Nat → Prop} (hc : Chg A w w') (hA : ∀ k, A k → has es k ∨ k = a.pb) : Tb a.hb a.mh a.mw a.me a.rep a.per (KNm a.rep KL) WT w' ∧ RT a.B a.rb kl wl a.me a.rep a.per KL WL w' := by
  have hp : ∀ k, k = a.pb → k ≠ a.hb ∧ k ≠ a.mh ∧ k ≠ a.mw ∧ ¬ RA a.rb kl wl k := fun k e => by
    subst e
    refine ⟨Blk.ne_t h.p h.t.blk (by decide), h.t.hm.ne_b h.p, h.t.wm.ne_b h.p, ?_⟩
    rintro (e | e | e)
    · exact Blk.ne_t h.p h.r.blk (by decide) e
    · exact h.r.knb h.p (by decide) e
    · exact h.r.wnb h.p (by decide) e
  have key : ∀ k, A k → k ≠ a.hb ∧ k ≠ a.mh ∧ k ≠ a.mw ∧ ¬ RA a.rb kl wl k := fun k hk => by
    rcases hA k hk with h1 | h1
    · exact (h.ne h1).2
    · exact hp k h1
  exact ⟨h.t.keep hc (fun e => (key _ e).1 rfl) (fun e => (key _ e).2.1 rfl) (fun e => (key _ e).2.2.1 rfl), h.r.keep hc (fun b hb e => (key _ e).2.2.2 hb)⟩
theorem AS.perm (h : AS a kl wl KL WT WL own0 w0 C es w) (hp : es.Perm es') : AS a kl wl KL WT WL own0 w0 C es' w :=
  ⟨h.p, h.t, h.r, h.h.perm hp, fun k hk e => h.ra k hk ((has_perm hp).2 e), h.chg, fun k hk => h.new k ((has_perm hp).2 hk), h.op⟩
theorem AS.more (h : AS a kl wl KL WT WL own0 w0 C es w) (hb : Below w.heap.size w w') : AS a kl wl KL WT WL own0 w0 C es w' :=
  ⟨h.p.below hb h.p.lt, h.t.more hb, h.r.more hb, h.h.more hb, h.ra, h.chg.trans (Chg.ofBelow (fun _ => False) hb) (fun _ _ e => e.elim), h.new, h.op⟩
theorem AS.swap (h : AS a kl wl KL WT WL own0 w0 C (e :: R) w) (hc : Chg (fun k => e.bl k) w w') (hP : e'.P w') (hu : ∀ k, e'.bl k → e.bl k ∨ w.heap.size ≤ k) : AS a kl wl KL WT WL own0 w0 C (e' :: R) w' := by
  have hin : ∀ k, e.bl k → has (e :: R) k := fun k hk => ⟨e, List.mem_cons_self .., hk⟩
  obtain ⟨ht, hr⟩ := h.keepT hc (fun k hk => Or.inl (hin k hk))
  refine ⟨hc.blk h.p (fun e => (h.ne (hin _ e)).1 rfl), ht, hr, h.h.swap hc hP hu, fun k hk hx => ?_, h.chg.trans hc (fun k hk hx => ?_), fun k hk => ?_, h.op⟩
  · rcases has_swap hu hx with h1 | h1
    · exact h.ra k hk h1
    · have : k < w.heap.size := by
        rcases hk with rfl | e | e
        · exact h.r.blk.lt
        · exact (ownsRow_lt h.r.kr e).2
        · exact (ownsRow_lt h.r.wr e).2
      omega
  · rcases h.new k (hin k hx) with h1 | h1
    · exact h1
    · omega
  · rcases has_swap hu hk with h1 | h1
    · exact h.new k h1
    · exact Or.inr (Nat.le_trans h.chg.size h1)
theorem AS.add (h : AS a kl wl KL WT WL own0 w0 C R w) (hP : e.P w) (hn : ∀ k, e.bl k → w0.heap.size ≤ k ∧ ¬ has R k ∧ ¬ RA a.rb kl wl k) : AS a kl wl KL WT WL own0 w0 C (e :: R) w := by
  refine ⟨h.p, h.t, h.r, h.h.add hP (fun k hk => (hn k hk).2.1), fun k hk hx => ?_, h.chg, fun k hk => ?_, h.op⟩
  · obtain ⟨x, hx, hv⟩ := hx
    rcases List.mem_cons.1 hx with rfl | hx
    · exact (hn k hv).2.2 hk
    · exact h.ra k hk ⟨x, hx, hv⟩
  · obtain ⟨x, hx, hv⟩ := hk
    rcases List.mem_cons.1 hx with rfl | hx
    · exact Or.inr (hn k hv).1
    · exact h.new k ⟨x, hx, hv⟩
theorem AS.drop (h : AS a kl wl KL WT WL own0 w0 C (e :: R) w) : AS a kl wl KL WT WL own0 w0 C R w :=
  ⟨h.p, h.t, h.r, h.h.drop, fun k hk ⟨x, hx, hv⟩ => h.ra k hk ⟨x, List.mem_cons_of_mem _ hx, hv⟩, h.chg, fun k ⟨x, hx, hv⟩ => h.new k ⟨x, List.mem_cons_of_mem _ hx, hv⟩, h.op⟩
/-- A cell of the box. -/
theorem AS.set (h : AS a kl wl KL WT WL own0 w0 C es w) (j : Nat) (u : Value) : AS a kl wl KL WT WL own0 w0 (C.setIfInBounds j u) es (w.setCell ⟨a.pb, j, none⟩ u) := by
  have hs : Chg (fun b => b = a.pb) w (w.setCell ⟨a.pb, j, none⟩ u) := ⟨rfl, rfl, rfl, by simp [World.setCell], fun j hj hn => Below.heap_setCell _ _ _ _ hn⟩
  obtain ⟨ht, hr⟩ := h.keepT hs (fun k hk => Or.inr hk)
  exact ⟨h.p.set j u, ht, hr, h.h.chg hs (fun k hk e => (h.ne hk).1 e), h.ra, h.chg.trans hs (fun k _ e => by rw [e]; exact h.op), h.new, h.op⟩
theorem AS.cell (h : AS a kl wl KL WT WL own0 w0 C es w) (j : Nat) : w.cell? ⟨a.pb, j, none⟩ = C[j]? := h.p.cell j
theorem AS.fz (h : AS a kl wl KL WT WL own0 w0 C es w) (j : Nat) : w.frozen? ⟨a.pb, j, none⟩ = false := h.p.frozen j
theorem AS.low (h : AS a kl wl KL WT WL own0 w0 C es w) {k : Nat} (hk : RA a.rb kl wl k) : k < w.heap.size := by
  rcases hk with rfl | e | e
  · exact h.r.blk.lt
  · exact (ownsRow_lt h.r.kr e).2
  · exact (ownsRow_lt h.r.wr e).2
/-- A new one, in memory that was not there at the beginning. -/
theorem AS.fresh (h : AS a kl wl KL WT WL own0 w0 C R w) {wx : World} (hb : Below wx.heap.size wx w) (hx : AS a kl wl KL WT WL own0 w0 C R wx) (hP : e.P w) (hn : ∀ k, e.bl k → wx.heap.size ≤ k) : AS a kl wl KL WT WL own0 w0 C (e :: R) w :=
  h.add hP fun k hk => ⟨Nat.le_trans hx.chg.size (hn k hk), fun e => by have := (hx.h.typ e).2.1; have := hn k hk; omega, fun e => by have := hx.low e; have := hn k hk; omega⟩
end
def NZ.box (z : NZ) (a : PA) (mk : Int) : Array Value := pairV a.hb a.rb mk z.vtx z.vcl z.vtl z.vms z.vlt z.vwt z.vlc z.vwc
/-- What varies. -/
structure PV where
  kl : Value
  wl : Value
  KL : List (List UInt8)
  WL : List ((Int × Int) × OpA)
  mark : Int
  z : NZ
def PA.own (a : PA) (s : PV) (k : Nat) : Prop := k = a.pb ∨ k = a.hb ∨ k = a.mh ∨ k = a.mw ∨ RA a.rb s.kl s.wl k ∨ has (s.z.ents a.S0) k
/-- A pair in memory. -/
structure PN (a : PA) (s : PV) (w : World) : Prop where
  p : Blk w a.pb (s.z.box a s.mark) 67
  t : Tb a.hb a.mh a.mw a.me a.rep a.per (KNm a.rep s.KL) s.WL w
  r : RT a.B a.rb s.kl s.wl a.me a.rep a.per s.KL s.WL w
  h : Held (s.z.ents a.S0) w
  ra : ∀ k, RA a.rb s.kl s.wl k → ¬ has (s.z.ents a.S0) k
  f : NFull s.z
  lo : a.S0 ≤ a.pb ∧ a.S0 ≤ a.mh ∧ a.S0 ≤ a.mw ∧ a.S0 ≤ a.B ∧ a.S0 ≤ a.hb
  low : a.S0 ≤ w.heap.size
structure PStp (a : PA) (s s' : PV) (w w' : World) : Prop where
  chg : Chg (a.own s) w w'
  new : ∀ k, a.own s' k → a.own s k ∨ w.heap.size ≤ k
section
variable {a : PA} {s s' s'' : PV} {w w' w'' : World}
theorem PN.as (h : PN a s w) : AS a s.kl s.wl s.KL s.WL s.WL (a.own s) w (s.z.box a s.mark) (s.z.ents a.S0) w :=
  ⟨h.p, h.t, h.r, h.h, h.ra, Chg.refl _ _, fun k hk => Or.inl (Or.inr (Or.inr (Or.inr (Or.inr (Or.inr hk))))), Or.inl rfl⟩
theorem PN.more (h : PN a s w) (hb : Below w.heap.size w w') : PN a s w' := ⟨h.p.below hb h.p.lt, h.t.more hb, h.r.more hb, h.h.more hb, h.ra, h.f, h.lo, Nat.le_trans h.low hb.size⟩
theorem PStp.refl (a : PA) (s : PV) (w : World) : PStp a s s w w := ⟨Chg.refl _ _, fun _ h => Or.inl h⟩
theorem PStp.ofBelow (h : Below w.heap.size w w') : PStp a s s w w' := ⟨Chg.ofBelow _ h, fun _ h => Or.inl h⟩
theorem PStp.trans (h : PStp a s s' w w') (k : PStp a s' s'' w' w'') : PStp a s s'' w w'' := by
  refine ⟨h.chg.trans k.chg (fun j hj e => ?_), fun j e => ?_⟩
  · rcases h.new j e with h1 | h1
    · exact h1
    · omega
  · rcases k.new j e with h1 | h1
    · exact h.new j h1
    · exact Or.inr (Nat.le_trans h.chg.size h1)
theorem PN.lt (h : PN a s w) {k : Nat} (hk : a.own s k) : k < w.heap.size := by
  rcases hk with rfl | rfl | rfl | rfl | e | e
  · exact h.p.lt
  · exact h.t.blk.lt
  · exact h.t.hm.lt
  · exact h.t.wm.lt
  · exact h.as.low e
  · exact (h.h.typ e).2.1
theorem PN.ge (h : PN a s w) {k : Nat} (hk : a.own s k) : a.S0 ≤ k := by
  rcases hk with rfl | rfl | rfl | rfl | (rfl | e | e) | e
  · exact h.lo.1
  · exact h.lo.2.2.2.2
  · exact h.lo.2.1
  · exact h.lo.2.2.1
  · exact Nat.le_trans h.lo.2.2.2.1 h.r.lo
  · exact Nat.le_trans h.lo.2.2.2.1 (ownsRow_lt h.r.kr e).1
  · exact Nat.le_trans h.lo.2.2.2.1 (ownsRow_lt h.r.wr e).1
  · exact (h.h.typ e).1
theorem PN.frame (h : PN a s w) {A : Nat → Prop} (hc : Chg A w w') (hA : ∀ k, a.own s k → ¬ A k) : PN a s w' := by
  have n := hA
  exact ⟨hc.blk h.p (n _ (Or.inl rfl)), h.t.keep hc (n _ (Or.inr (Or.inl rfl))) (n _ (Or.inr (Or.inr (Or.inl rfl)))) (n _ (Or.inr (Or.inr (Or.inr (Or.inl rfl))))), h.r.keep hc (fun b hb => n _ (Or.inr (Or.inr (Or.inr (Or.inr (Or.inl hb)))))), h.h.chg hc (fun k hk => n _ (Or.inr (Or.inr (Or.inr (Or.inr (Or.inr hk)))))), h.ra, h.f, h.lo, Nat.le_trans h.low hc.size⟩
theorem PStp.below (h : PN a s w) (k : PStp a s s' w w') : Below a.S0 w w' := k.chg.below h.low (fun j hj => h.ge hj)
/-- Back out of a call. -/
theorem PN.back (h : PN a s w) {mk : Int} {z : NZ} (hA : AS a s.kl s.wl s.KL s.WL s.WL (a.own s) w (z.box a mk) (z.ents a.S0) w') (hf : NFull z) : PN a { s with mark := mk, z := z } w' ∧ PStp a s { s with mark := mk, z := z } w w' := by
  refine ⟨⟨hA.p, hA.t, hA.r, hA.h, hA.ra, hf, h.lo, Nat.le_trans h.low hA.chg.size⟩, hA.chg, fun k hk => ?_⟩
  rcases hk with e | e | e | e | e | e
  · exact Or.inl (Or.inl e)
  · exact Or.inl (Or.inr (Or.inl e))
  · exact Or.inl (Or.inr (Or.inr (Or.inl e)))
  · exact Or.inl (Or.inr (Or.inr (Or.inr (Or.inl e))))
  · exact Or.inl (Or.inr (Or.inr (Or.inr (Or.inr (Or.inl e)))))
  · exact hA.new k e
end
end Go.Proofs.Ytbjlaloofpdbfaa
