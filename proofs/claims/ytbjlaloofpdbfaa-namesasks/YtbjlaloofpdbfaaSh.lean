import Derived.Test.YtbjlaloofpdbfaaTail
import Derived.Test.YtbjlaloofpdbfaaAps
namespace Go.Proofs.Ytbjlaloofpdbfaa
open Go.RowKit Go.PlainAid
set_option linter.unusedVariables false
/-- Two values' rows lie apart. -/
def Dj (u v : Value) : Prop := ∀ k, u.ownBlock = some k → v.ownBlock ≠ some k
theorem Dj.symm {u v : Value} (h : Dj u v) : Dj v u := fun k h1 h2 => h k h2 h1
def TS (T : TypeId) : Prop := T = 9 ∨ T = 37 ∨ T = 51 ∨ T = 45 ∨ T = 3
/-- A slice of the law's own, with what is known of its row. -/
structure Ent (L : Nat) where
  bl : Nat → Prop
  P : World → Prop
  fr : ∀ w w' : World, (∀ g, bl g → w'.heap[g]? = w.heap[g]?) → P w → P w'
  lo : ∀ w : World, P w → ∀ g, bl g → L ≤ g ∧ g < w.heap.size ∧ ∃ C T, Blk w g C T ∧ TS T
def Ent.Dj {L : Nat} (e e' : Ent L) : Prop := ∀ k, e.bl k → ¬ e'.bl k
theorem Ent.Dj.symm {L : Nat} {e e' : Ent L} (h : e.Dj e') : e'.Dj e := fun k h1 h2 => h k h2 h1
def has {L : Nat} (es : List (Ent L)) (k : Nat) : Prop := ∃ e ∈ es, e.bl k
structure Held {L : Nat} (es : List (Ent L)) (w : World) : Prop where
  all : ∀ e ∈ es, e.P w
  dj : es.Pairwise Ent.Dj
section
variable {L : Nat} {es es' R : List (Ent L)} {e e' : Ent L} {w w' : World} {A : Nat → Prop}
theorem Held.typ (h : Held es w) {k : Nat} (hk : has es k) : L ≤ k ∧ k < w.heap.size ∧ ∃ C T, Blk w k C T ∧ TS T := by
  obtain ⟨e, he, hv⟩ := hk
  exact e.lo w (h.all e he) k hv
theorem Held.keep (h : Held es w) (hk : ∀ k, has es k → w'.heap[k]? = w.heap[k]?) : Held es w' := ⟨fun e he => e.fr w w' (fun g hg => hk g ⟨e, he, hg⟩) (h.all e he), h.dj⟩
theorem Held.chg (h : Held es w) (hc : Chg A w w') (hA : ∀ k, has es k → ¬ A k) : Held es w' := h.keep fun k hk => hc.block k (h.typ hk).2.1 (hA k hk)
theorem Held.more (h : Held es w) (hb : Below w.heap.size w w') : Held es w' := h.keep fun k hk => hb.block k (h.typ hk).2.1
theorem Held.perm (h : Held es w) (hp : es.Perm es') : Held es' w := ⟨fun e he => h.all e (hp.mem_iff.2 he), (hp.pairwise_iff (fun h => h.symm)).1 h.dj⟩
theorem has_perm (hp : es.Perm es') {k : Nat} : has es k ↔ has es' k := ⟨fun ⟨e, he, hv⟩ => ⟨e, hp.mem_iff.1 he, hv⟩, fun ⟨e, he, hv⟩ => ⟨e, hp.mem_iff.2 he, hv⟩⟩
theorem Held.drop (h : Held (e :: R) w) : Held R w := ⟨fun x hx => h.all x (List.mem_cons_of_mem _ hx), (List.pairwise_cons.1 h.dj).2⟩
theorem Held.apart (h : Held (e :: R) w) {k : Nat} (hk : e.bl k) : ¬ has R k := fun ⟨x, hx, hv⟩ => (List.pairwise_cons.1 h.dj).1 x hx k hk hv
theorem Held.add (h : Held R w) (hP : e.P w) (hn : ∀ k, e.bl k → ¬ has R k) : Held (e :: R) w := by
  refine ⟨fun x hx => ?_, List.pairwise_cons.2 ⟨fun x hx k h1 h2 => hn k h1 ⟨x, hx, h2⟩, h.dj⟩⟩
  rcases List.mem_cons.1 hx with rfl | hx
  · exact hP
  · exact h.all x hx
/-- One of them changes, in its own row or to a new one. -/
theorem Held.swap (h : Held (e :: R) w) (hc : Chg (fun k => e.bl k) w w') (hP : e'.P w') (hu : ∀ k, e'.bl k → e.bl k ∨ w.heap.size ≤ k) : Held (e' :: R) w' := by
  have hR := h.drop
  refine (hR.chg hc (fun k hk e => h.apart e hk)).add hP fun k hk => ?_
  rcases hu k hk with h1 | h1
  · exact h.apart h1
  · intro h2
    have := (hR.typ h2).2.1
    omega
theorem has_swap (hu : ∀ k, e'.bl k → e.bl k ∨ w.heap.size ≤ k) {k : Nat} (hk : has (e' :: R) k) : has (e :: R) k ∨ w.heap.size ≤ k := by
  obtain ⟨x, hx, hv⟩ := hk
  rcases List.mem_cons.1 hx with rfl | hx
  · rcases hu k hv with h1 | h1
    · exact Or.inl ⟨e, List.mem_cons_self .., h1⟩
    · exact Or.inr h1
  · exact Or.inl ⟨x, List.mem_cons_of_mem _ hx, hv⟩
end
/-- A row of elements. -/
def rowE (L : Nat) (T : TypeId) (sz : Nat) (hT : TS T) (v : Value) (n : Nat) (xs : List Value) : Ent L where
  bl := fun k => v.ownBlock = some k
  P := fun w => w.ownsRow L T sz v n xs
  fr := fun w w' h hP => ownsRow_same hP h
  lo := fun w hP g hg => by
    obtain ⟨cu, hcu⟩ := ownsRow_type hP hg
    have := ownsRow_lt hP hg
    exact ⟨this.1, this.2, cu, T, hcu, hT⟩
/-- A list that may begin within its row. -/
def tailE (L : Nat) (T : TypeId) (hT : TS T) (v : Value) (n : Nat) (xs : List Value) : Ent L where
  bl := fun k => v.ownBlock = some k
  P := fun w => Tail w L T v n xs
  fr := fun w w' h hP => tail_same hP h
  lo := fun w hP g hg => by
    obtain ⟨h1, cu, hcu⟩ := tail_blk hP hg
    have := tail_lt hP g hg
    exact ⟨h1, this.2, cu, T, hcu, hT⟩
theorem ts9 : TS 9 := Or.inl rfl
theorem ts37 : TS 37 := Or.inr (Or.inl rfl)
theorem ts51 : TS 51 := Or.inr (Or.inr (Or.inl rfl))
theorem ts45 : TS 45 := Or.inr (Or.inr (Or.inr (Or.inl rfl)))
theorem ts3 : TS 3 := Or.inr (Or.inr (Or.inr (Or.inr rfl)))
structure DS where
  d : Value
  ss : List (List UInt8)
structure DC where
  d : Value
  cs : List (Int × Int)
/-- What a pair has kept. -/
structure NZ where
  vtx : Value
  vcl : Value
  vtl : Value
  vms : Value
  vlt : Value
  vwt : Value
  vlc : Value
  vwc : Value
  kt : List DS
  lt : List DS
  wt : List DS
  kc : List DC
  lc : List DC
  wc : List DC
  tl : List (List UInt8)
  ms : List Int
def dsE (L : Nat) (x : DS) : Ent L := rowE L 9 1 ts9 x.d x.ss.length (flatS x.ss)
def dcE (L : Nat) (x : DC) : Ent L := rowE L 37 2 ts37 x.d x.cs.length (flatC x.cs)
def NZ.e0 (L : Nat) (z : NZ) : Ent L := tailE L 51 ts51 z.vtx z.kt.length (z.kt.map DS.d)
def NZ.e1 (L : Nat) (z : NZ) : Ent L := tailE L 45 ts45 z.vcl z.kc.length (z.kc.map DC.d)
def NZ.e2 (L : Nat) (z : NZ) : Ent L := tailE L 9 ts9 z.vtl z.tl.length (flatS z.tl)
def NZ.e3 (L : Nat) (z : NZ) : Ent L := tailE L 3 ts3 z.vms z.ms.length (z.ms.map I)
def NZ.e4 (L : Nat) (z : NZ) : Ent L := tailE L 51 ts51 z.vlt z.lt.length (z.lt.map DS.d)
def NZ.e5 (L : Nat) (z : NZ) : Ent L := tailE L 51 ts51 z.vwt z.wt.length (z.wt.map DS.d)
def NZ.e6 (L : Nat) (z : NZ) : Ent L := tailE L 45 ts45 z.vlc z.lc.length (z.lc.map DC.d)
def NZ.e7 (L : Nat) (z : NZ) : Ent L := tailE L 45 ts45 z.vwc z.wc.length (z.wc.map DC.d)
def NZ.dats (L : Nat) (z : NZ) : List (Ent L) := z.kt.map (dsE L) ++ (z.lt.map (dsE L) ++ (z.wt.map (dsE L) ++ (z.kc.map (dcE L) ++ (z.lc.map (dcE L) ++ z.wc.map (dcE L)))))
def NZ.ents (L : Nat) (z : NZ) : List (Ent L) := [z.e0 L, z.e1 L, z.e2 L, z.e3 L, z.e4 L, z.e5 L, z.e6 L, z.e7 L] ++ z.dats L
/-- The answers are as they were left. -/
structure NFull (z : NZ) : Prop where
  lt1 : z.tl.length = z.kt.length
  lc1 : z.ms.length = z.kc.length
  ft : ∀ (i : Nat) (x : DS) (m : List UInt8), z.kt[i]? = some x → z.tl[i]? = some m → ∀ u ∈ x.ss, u = m
  fc : ∀ (i : Nat) (x : DC) (m : Int), z.kc[i]? = some x → z.ms[i]? = some m → ∀ u ∈ x.cs, u.1 = m
  n1 : z.kt.length ≤ 4
  n2 : z.kc.length ≤ 4
  n3 : z.lt.length ≤ 1000
  n4 : z.lc.length ≤ 1000
  s1 : ∀ x ∈ z.kt ++ (z.lt ++ z.wt), x.ss.length ≤ 1000
  s2 : ∀ x ∈ z.kc ++ (z.lc ++ z.wc), x.cs.length ≤ 1000
  wt1 : z.wt.map DS.ss = z.lt.map DS.ss
  wc1 : z.wc.map DC.cs = z.lc.map DC.cs
def nz0 : NZ := ⟨.slice none 0 0, .slice none 0 0, .slice none 0 0, .slice none 0 0, .slice none 0 0, .slice none 0 0, .slice none 0 0, .slice none 0 0, [], [], [], [], [], [], [], []⟩
theorem held0 (L : Nat) (w : World) : Held (nz0.ents L) w := by
  refine ⟨fun e he => ?_, ?_⟩
  · simp only [NZ.ents, NZ.dats, nz0, List.map_nil, List.append_nil, List.mem_cons, List.not_mem_nil, or_false] at he
    rcases he with rfl | rfl | rfl | rfl | rfl | rfl | rfl | rfl <;> exact tail_nil w L _
  · simp only [NZ.ents, NZ.dats, nz0, List.map_nil, List.append_nil]
    repeat (first | exact List.Pairwise.nil | refine List.pairwise_cons.2 ⟨fun e _ k h => (by cases h), ?_⟩)
theorem full0 : NFull nz0 := ⟨rfl, rfl, (fun i x m h => by simp [nz0] at h), (fun i x m h => by simp [nz0] at h), by decide, by decide, by decide, by decide, (fun x h => by simp [nz0] at h), (fun x h => by simp [nz0] at h), rfl, rfl⟩
end Go.Proofs.Ytbjlaloofpdbfaa
