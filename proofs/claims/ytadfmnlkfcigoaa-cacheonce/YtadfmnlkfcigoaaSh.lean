import Derived.Test.YtadfmnlkfcigoaaP0
import Derived.Test.YtadfmnlkfcigoaaJoinA
import Derived.Test.YtadfmnlkfcigoaaPd
import Derived.Test.YtadfmnlkfcigoaaRpd
namespace Go.Proofs.Ytadfmnlkfcigoaa
open Go.RowKit Go.PlainAid
set_option linter.unusedVariables false
/-- A part of memory, with what is known of it. -/
structure Ent (L : Nat) where
  bl : Nat → Prop
  P : World → Prop
  fr : ∀ w w' : World, (∀ g, bl g → w'.heap[g]? = w.heap[g]?) → P w → P w'
  lo : ∀ w : World, P w → ∀ g, bl g → L ≤ g ∧ g < w.heap.size
def Ent.Dj {L : Nat} (e e' : Ent L) : Prop := ∀ k, e.bl k → ¬ e'.bl k
theorem Ent.Dj.symm {L : Nat} {e e' : Ent L} (h : e.Dj e') : e'.Dj e := fun k h1 h2 => h k h2 h1
def has {L : Nat} (es : List (Ent L)) (k : Nat) : Prop := ∃ e ∈ es, e.bl k
structure Held {L : Nat} (es : List (Ent L)) (w : World) : Prop where
  all : ∀ e ∈ es, e.P w
  dj : es.Pairwise Ent.Dj
section
variable {L : Nat} {es es' R : List (Ent L)} {e e' : Ent L} {w w' : World} {A : Nat → Prop}
theorem Held.typ (h : Held es w) {k : Nat} (hk : has es k) : L ≤ k ∧ k < w.heap.size := by
  obtain ⟨e, he, hv⟩ := hk
  exact e.lo w (h.all e he) k hv
theorem Held.keep (h : Held es w) (hk : ∀ k, has es k → w'.heap[k]? = w.heap[k]?) : Held es w' := ⟨fun e he => e.fr w w' (fun g hg => hk g ⟨e, he, hg⟩) (h.all e he), h.dj⟩
theorem Held.chg (h : Held es w) (hc : Chg A w w') (hA : ∀ k, has es k → ¬ A k) : Held es w' := h.keep fun k hk => hc.block k (h.typ hk).2 (hA k hk)
theorem Held.more (h : Held es w) (hb : Below w.heap.size w w') : Held es w' := h.keep fun k hk => hb.block k (h.typ hk).2
theorem Held.perm (h : Held es w) (hp : es.Perm es') : Held es' w := ⟨fun e he => h.all e (hp.mem_iff.2 he), (hp.pairwise_iff (fun h => h.symm)).1 h.dj⟩
theorem has_perm (hp : es.Perm es') {k : Nat} : has es k ↔ has es' k := ⟨fun ⟨e, he, hv⟩ => ⟨e, hp.mem_iff.1 he, hv⟩, fun ⟨e, he, hv⟩ => ⟨e, hp.mem_iff.2 he, hv⟩⟩
theorem Held.drop (h : Held (e :: R) w) : Held R w := ⟨fun x hx => h.all x (List.mem_cons_of_mem _ hx), (List.pairwise_cons.1 h.dj).2⟩
theorem Held.apart (h : Held (e :: R) w) {k : Nat} (hk : e.bl k) : ¬ has R k := fun ⟨x, hx, hv⟩ => (List.pairwise_cons.1 h.dj).1 x hx k hk hv
theorem Held.add (h : Held R w) (hP : e.P w) (hn : ∀ k, e.bl k → ¬ has R k) : Held (e :: R) w := by
  refine ⟨fun x hx => ?_, List.pairwise_cons.2 ⟨fun x hx k h1 h2 => hn k h1 ⟨x, hx, h2⟩, h.dj⟩⟩
  rcases List.mem_cons.1 hx with rfl | hx
  · exact hP
  · exact h.all x hx
theorem Held.swap (h : Held (e :: R) w) (hc : Chg (fun k => e.bl k) w w') (hP : e'.P w') (hu : ∀ k, e'.bl k → e.bl k ∨ w.heap.size ≤ k) : Held (e' :: R) w' := by
  have hR := h.drop
  refine (hR.chg hc (fun k hk e => h.apart e hk)).add hP fun k hk => ?_
  rcases hu k hk with h1 | h1
  · exact h.apart h1
  · intro h2
    have := (hR.typ h2).2
    omega
theorem has_cons {k : Nat} : has (e :: R) k ↔ e.bl k ∨ has R k := by
  constructor
  · rintro ⟨x, hx, hv⟩
    rcases List.mem_cons.1 hx with rfl | hx
    · exact Or.inl hv
    · exact Or.inr ⟨x, hx, hv⟩
  · rintro (h | ⟨x, hx, hv⟩)
    · exact ⟨e, List.mem_cons_self .., h⟩
    · exact ⟨x, List.mem_cons_of_mem _ hx, hv⟩
end
/-- What is held within a call that began at w0 with the blocks own0. -/
structure AS {L : Nat} (own0 : Nat → Prop) (w0 : World) (es : List (Ent L)) (w : World) : Prop where
  h : Held es w
  chg : Chg own0 w0 w
  new : ∀ k, has es k → own0 k ∨ w0.heap.size ≤ k
section
variable {L : Nat} {own0 : Nat → Prop} {w0 : World} {es es' R : List (Ent L)} {e e' : Ent L} {w w' : World} {A : Nat → Prop}
theorem AS.perm (h : AS own0 w0 es w) (hp : es.Perm es') : AS own0 w0 es' w := ⟨h.h.perm hp, h.chg, fun k hk => h.new k ((has_perm hp).2 hk)⟩
theorem AS.more (h : AS own0 w0 es w) (hb : Below w.heap.size w w') : AS own0 w0 es w' := ⟨h.h.more hb, h.chg.trans (Chg.ofBelow (fun _ => False) hb) (fun _ _ e => e.elim), h.new⟩
theorem AS.swap (h : AS own0 w0 (e :: R) w) (hc : Chg (fun k => e.bl k) w w') (hP : e'.P w') (hu : ∀ k, e'.bl k → e.bl k ∨ w.heap.size ≤ k) : AS own0 w0 (e' :: R) w' := by
  refine ⟨h.h.swap hc hP hu, h.chg.trans hc (fun j hj hb => ?_), fun k hk => ?_⟩
  · rcases h.new j (has_cons.2 (Or.inl hb)) with h1 | h1
    · exact h1
    · omega
  · rcases has_cons.1 hk with h1 | h1
    · rcases hu k h1 with h2 | h2
      · exact h.new k (has_cons.2 (Or.inl h2))
      · exact Or.inr (Nat.le_trans h.chg.size h2)
    · exact h.new k (has_cons.2 (Or.inr h1))
theorem AS.drop (h : AS own0 w0 (e :: R) w) : AS own0 w0 R w := ⟨h.h.drop, h.chg, fun k hk => h.new k (has_cons.2 (Or.inr hk))⟩
/-- Something new, that lies above where another world ended. -/
theorem AS.fresh (h : AS own0 w0 R w) (hb : Below w.heap.size w w') (hP : e.P w') (hn : ∀ k, e.bl k → w.heap.size ≤ k) : AS own0 w0 (e :: R) w' := by
  have h1 := h.more hb
  refine ⟨h1.h.add hP (fun k hk hh => ?_), h1.chg, fun k hk => ?_⟩
  · have := (h.h.typ hh).2
    have := hn k hk
    omega
  · rcases has_cons.1 hk with h2 | h2
    · exact Or.inr (Nat.le_trans h.chg.size (hn k h2))
    · exact h.new k h2
theorem AS.head (h : AS own0 w0 (e :: R) w) : e.P w := h.h.all e (List.mem_cons_self ..)
theorem AS.get (h : AS own0 w0 es w) (he : e ∈ es) : e.P w := h.h.all e he
end
def rowE (L : Nat) (T : TypeId) (sz : Nat) (v : Value) (n : Nat) (xs : List Value) : Ent L where
  bl := fun k => v.ownBlock = some k
  P := fun w => w.ownsRow L T sz v n xs
  fr := fun w w' h hP => ownsRow_same hP h
  lo := fun w hP g hg => ownsRow_lt hP hg
def tailE (L : Nat) (T : TypeId) (v : Value) (n : Nat) (xs : List Value) : Ent L where
  bl := fun k => v.ownBlock = some k
  P := fun w => Tail w L T v n xs
  fr := fun w w' h hP => tail_same hP h
  lo := fun w hP g hg => tail_lt hP g hg
def boxE (L pb : Nat) (C : Array Value) (T : TypeId) : Ent L where
  bl := fun k => k = pb
  P := fun w => Blk w pb C T ∧ L ≤ pb
  fr := fun w w' h hP => ⟨(h pb rfl).trans hP.1, hP.2⟩
  lo := fun w hP g hg => by subst hg; exact ⟨hP.2, hP.1.lt⟩
/-- The cache, as a part of memory. -/
def cmE (L : Nat) (a : CA) (x : CX) : Ent L where
  bl := a.own
  P := fun w => CM a x w ∧ ∀ k, a.own k → L ≤ k
  fr := fun w w' h hP => by
    obtain ⟨h1, h2⟩ := hP
    exact ⟨⟨h1.ok, (h _ (Or.inl rfl)).trans h1.blk, h1.sm.same (h _ (Or.inr (Or.inl rfl))), h1.pm.same (h _ (Or.inr (Or.inr (Or.inl rfl)))), fun j b hj => (h1.hist j b hj).same (h b (Or.inr (Or.inr (Or.inr (List.mem_of_getElem? hj))))), h1.ne⟩, h2⟩
  lo := fun w hP g hg => ⟨hP.2 g hg, hP.1.lt hg⟩
/-- The document's cache, likewise. -/
def rcE (L : Nat) (a : CA) (rb : Nat) (r : RS) : Ent L where
  bl := r.own rb
  P := fun w => RC a L rb r w
  fr := fun w w' h hP => by
    obtain ⟨C, hB, hC⟩ := hP.blk
    exact ⟨⟨C, (h _ (Or.inl rfl)).trans hB, hC⟩, ownsRow_same hP.ro (fun g hg => h g (Or.inr (Or.inl hg))), ownsRow_same hP.rr (fun g hg => h g (Or.inr (Or.inr hg))), hP.lo⟩
  lo := fun w hP g hg => ⟨hP.ge hg, hP.lt hg⟩
structure DC where
  d : Value
  cs : List (Int × Int)
/-- What a pair has kept. -/
structure NZ where
  vcl : Value
  vms : Value
  vlc : Value
  vwc : Value
  kc : List DC
  lc : List DC
  wc : List DC
  ms : List Int
def Iv (z : Int) : Value := .int .i64 z
def dcE (L : Nat) (x : DC) : Ent L := rowE L 32 2 x.d x.cs.length (flatC x.cs)
def NZ.e1 (L : Nat) (z : NZ) : Ent L := tailE L 79 z.vcl z.kc.length (z.kc.map DC.d)
def NZ.e3 (L : Nat) (z : NZ) : Ent L := tailE L 3 z.vms z.ms.length (z.ms.map Iv)
def NZ.e6 (L : Nat) (z : NZ) : Ent L := tailE L 79 z.vlc z.lc.length (z.lc.map DC.d)
def NZ.e7 (L : Nat) (z : NZ) : Ent L := tailE L 79 z.vwc z.wc.length (z.wc.map DC.d)
def NZ.dats (L : Nat) (z : NZ) : List (Ent L) := z.kc.map (dcE L) ++ (z.lc.map (dcE L) ++ z.wc.map (dcE L))
def NZ.ents (L : Nat) (z : NZ) : List (Ent L) := [z.e1 L, z.e3 L, z.e6 L, z.e7 L] ++ z.dats L
structure NFull (z : NZ) : Prop where
  lc1 : z.ms.length = z.kc.length
  fc : ∀ (i : Nat) (x : DC) (m : Int), z.kc[i]? = some x → z.ms[i]? = some m → ∀ u ∈ x.cs, u.1 = m
  n2 : z.kc.length ≤ 4
  n4 : z.lc.length ≤ 1000
  s2 : ∀ x ∈ z.kc ++ (z.lc ++ z.wc), x.cs.length ≤ 1000
  wc1 : z.wc.map DC.cs = z.lc.map DC.cs
def nz0 : NZ := ⟨.slice none 0 0, .slice none 0 0, .slice none 0 0, .slice none 0 0, [], [], [], []⟩
theorem full0 : NFull nz0 := ⟨rfl, (fun i x m h => by simp [nz0] at h), by decide, by decide, (fun x h => by simp [nz0] at h), rfl⟩
theorem nz0_has {L k : Nat} : ¬ has (nz0.ents L) k := by
  rintro ⟨e, he, hv⟩
  simp only [NZ.ents, NZ.dats, nz0, List.map_nil, List.append_nil, List.mem_cons, List.not_mem_nil, or_false] at he
  rcases he with rfl | rfl | rfl | rfl <;> cases hv
theorem held0 (L : Nat) (w : World) : Held (nz0.ents L) w := by
  refine ⟨fun e he => ?_, ?_⟩
  · simp only [NZ.ents, NZ.dats, nz0, List.map_nil, List.append_nil, List.mem_cons, List.not_mem_nil, or_false] at he
    rcases he with rfl | rfl | rfl | rfl <;> exact tail_nil w L _
  · simp only [NZ.ents, NZ.dats, nz0, List.map_nil, List.append_nil]
    repeat (first | exact List.Pairwise.nil | refine List.pairwise_cons.2 ⟨fun e _ k h => (by cases h), ?_⟩)
/-- The cells of a pair. -/
def pairV (cb rb : Nat) (mk : Int) (z : NZ) : Array Value := #[.pointer (some ⟨cb, 0, none⟩), .pointer (some ⟨rb, 0, none⟩), z.vcl, z.vms, .int .i64 mk, z.vlc, z.vwc]
/-- Where a pair lies. -/
structure PA where
  L : Nat
  pb : Nat
  rb : Nat
  ca : CA
structure PV where
  x : CX
  r : RS
  mark : Int
  z : NZ
def PA.ents (a : PA) (s : PV) : List (Ent a.L) := boxE a.L a.pb (pairV a.ca.cb a.rb s.mark s.z) 57 :: cmE a.L a.ca s.x :: rcE a.L a.ca a.rb s.r :: s.z.ents a.L
/-- The two agree. -/
structure Agr (a : CA) (x : CX) (r : RS) : Prop where
  la : ∀ s, mine a.me a.rep a.ses s → r.la s = x.la s
  op : r.op = x.op
  bd : ∀ s, mine a.me a.rep a.ses s → 0 ≤ x.la s ∧ x.la s ≤ 1099511627776
  opb : ∀ c ∈ x.op, mine a.me a.rep a.ses c.1 ∧ 1 ≤ c.2 ∧ c.2 ≤ x.la c.1
  opn : x.op.Nodup
  rpb : ∀ y ∈ r.rp, mine a.me a.rep a.ses y.s ∧ 1 ≤ y.i ∧ y.i ≤ x.la y.s ∧ (y.s, y.i) ∉ x.op
  once : Once r.rp
  kp : ∀ s, mine a.me a.rep a.ses s → Kp a.room s r.rp (x.rg s)
/-- A pair in memory. -/
structure PN (a : PA) (s : PV) (w : World) : Prop where
  h : Held (a.ents s) w
  f : NFull s.z
  g : Agr a.ca s.x s.r
  lo : a.L ≤ w.heap.size
structure PStp (a : PA) (s s' : PV) (w w' : World) : Prop where
  chg : Chg (has (a.ents s)) w w'
  new : ∀ k, has (a.ents s') k → has (a.ents s) k ∨ w.heap.size ≤ k
section
variable {a : PA} {s s' s'' : PV} {w w' w'' : World}
theorem PN.as (h : PN a s w) : AS (has (a.ents s)) w (a.ents s) w := ⟨h.h, Chg.refl _ _, fun k hk => Or.inl hk⟩
theorem PN.more (h : PN a s w) (hb : Below w.heap.size w w') : PN a s w' := ⟨h.h.more hb, h.f, h.g, Nat.le_trans h.lo hb.size⟩
theorem PStp.refl (a : PA) (s : PV) (w : World) : PStp a s s w w := ⟨Chg.refl _ _, fun _ h => Or.inl h⟩
theorem PStp.ofBelow (h : Below w.heap.size w w') : PStp a s s w w' := ⟨Chg.ofBelow _ h, fun _ h => Or.inl h⟩
theorem PStp.trans (h : PStp a s s' w w') (k : PStp a s' s'' w' w'') : PStp a s s'' w w'' := by
  refine ⟨h.chg.trans k.chg (fun j hj e => ?_), fun j hj => ?_⟩
  · rcases h.new j e with h1 | h1
    · exact h1
    · omega
  · rcases k.new j hj with h1 | h1
    · exact h.new j h1
    · exact Or.inr (Nat.le_trans h.chg.size h1)
theorem PN.lt (h : PN a s w) {k : Nat} (hk : has (a.ents s) k) : k < w.heap.size := (h.h.typ hk).2
theorem PN.ge (h : PN a s w) {k : Nat} (hk : has (a.ents s) k) : a.L ≤ k := (h.h.typ hk).1
theorem PN.frame (h : PN a s w) {A : Nat → Prop} (hc : Chg A w w') (hA : ∀ k, has (a.ents s) k → ¬ A k) : PN a s w' := ⟨h.h.chg hc hA, h.f, h.g, Nat.le_trans h.lo hc.size⟩
theorem PStp.below (h : PN a s w) (k : PStp a s s' w w') : Below a.L w w' := k.chg.below h.lo (fun j hj => h.ge hj)
theorem PN.box (h : PN a s w) : Blk w a.pb (pairV a.ca.cb a.rb s.mark s.z) 57 := (h.h.all (boxE a.L a.pb _ 57) (List.mem_cons_self ..)).1
theorem PN.cm (h : PN a s w) : CM a.ca s.x w := (h.h.all (cmE a.L a.ca s.x) (List.mem_cons_of_mem _ (List.mem_cons_self ..))).1
theorem PN.rc (h : PN a s w) : RC a.ca a.L a.rb s.r w := h.h.all (rcE a.L a.ca a.rb s.r) (List.mem_cons_of_mem _ (List.mem_cons_of_mem _ (List.mem_cons_self ..)))
theorem PN.ok (h : PN a s w) : COk a.ca := h.cm.ok
end
end Go.Proofs.Ytadfmnlkfcigoaa
