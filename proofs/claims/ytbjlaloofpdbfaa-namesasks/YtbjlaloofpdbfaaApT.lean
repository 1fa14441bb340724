import Derived.Test.YtbjlaloofpdbfaaQ5
namespace Go.Proofs.Ytbjlaloofpdbfaa
open Go.RowKit Go.PlainAid
set_option linter.unusedVariables false
set_option linter.unusedSimpArgs false
def NZ.base (L : Nat) (z : NZ) : List (Ent L) := [z.e0 L, z.e1 L, z.e2 L, z.e3 L, z.e4 L, z.e5 L, z.e6 L, z.e7 L] ++ (z.kt.map (dsE L) ++ (z.wt.map (dsE L) ++ (z.kc.map (dcE L) ++ z.wc.map (dcE L))))
theorem pac {α : Type} (a b c : List α) : (a ++ (b ++ c)).Perm (b ++ (a ++ c)) := List.perm_append_comm_assoc a b c
theorem NZ.split (L : Nat) (z : NZ) : (z.ents L).Perm (z.lt.map (dsE L) ++ (z.lc.map (dcE L) ++ z.base L)) := by
  unfold NZ.ents NZ.dats NZ.base
  have h1 : (z.kt.map (dsE L) ++ (z.lt.map (dsE L) ++ (z.wt.map (dsE L) ++ (z.kc.map (dcE L) ++ (z.lc.map (dcE L) ++ z.wc.map (dcE L)))))).Perm (z.lt.map (dsE L) ++ (z.lc.map (dcE L) ++ (z.kt.map (dsE L) ++ (z.wt.map (dsE L) ++ (z.kc.map (dcE L) ++ z.wc.map (dcE L)))))) := by
    refine (pac _ _ _).trans (List.Perm.append_left _ ?_)
    refine List.Perm.trans (List.Perm.append_left _ ?_) (pac _ _ _)
    refine List.Perm.trans (List.Perm.append_left _ ?_) (pac _ _ _)
    exact pac _ _ _
  refine (List.Perm.append_left _ h1).trans ?_
  refine (pac _ _ _).trans (List.Perm.append_left _ ?_)
  exact pac _ _ _
section
variable {a : PA} {kl wl : Value} {KL : List (List UInt8)} {WT WL : List ((Int × Int) × OpA)} {own0 : Nat → Prop} {w0 w w' : World} {C : Array Value} {A R : List (Ent a.S0)} {e e' : Ent a.S0}
/-- One within the list changes. -/
theorem AS.mid (h : AS a kl wl KL WT WL own0 w0 C (A ++ e :: R) w) (hc : Chg e.bl w w') (hP : e'.P w') (hu : ∀ k, e'.bl k → e.bl k ∨ w.heap.size ≤ k) : AS a kl wl KL WT WL own0 w0 C (A ++ e' :: R) w' :=
  ((h.perm List.perm_middle).swap hc hP hu).perm List.perm_middle.symm
end
theorem split_at {α : Type} {l : List α} {i : Nat} {x : α} (h : l[i]? = some x) : l = l.take i ++ x :: l.drop (i + 1) := by
  obtain ⟨hl, rfl⟩ := List.getElem?_eq_some_iff.1 h
  rw [← List.drop_eq_getElem_cons hl, List.take_append_drop]
/-- A list whose first i are turned, each by its place. -/
def inkd {α : Type} (f : Nat → α → α) (l : List α) (i : Nat) : List α := l.mapIdx fun j x => if j < i then f j x else x
section
variable {α : Type} {f : Nat → α → α}
theorem inkd_len (l : List α) (i : Nat) : (inkd f l i).length = l.length := by simp [inkd]
theorem inkd_get (l : List α) (i j : Nat) : (inkd f l i)[j]? = (l[j]?).map fun x => if j < i then f j x else x := by simp [inkd]
theorem inkd_0 (l : List α) : inkd f l 0 = l := by
  apply List.ext_getElem?
  intro j
  rw [inkd_get]
  cases l[j]? <;> simp
theorem inkd_at {l : List α} {i : Nat} {x : α} (h : l[i]? = some x) : (inkd f l i)[i]? = some x := by rw [inkd_get, h]; simp
theorem inkd_all {l : List α} {i n : Nat} {x : α} (h : l[i]? = some x) (hn : i < n) : (inkd f l n)[i]? = some (f i x) := by rw [inkd_get, h]; simp [hn]
theorem inkd_step {l : List α} {i : Nat} {x : α} (h : l[i]? = some x) : (inkd f l i).take i ++ f i x :: (inkd f l i).drop (i + 1) = inkd f l (i + 1) := by
  apply List.ext_getElem?
  intro j
  have hil : i < l.length := (List.getElem?_eq_some_iff.1 h).1
  have ht : ((inkd f l i).take i).length = i := by rw [List.length_take, inkd_len]; omega
  rw [inkd_get]
  by_cases h1 : j < i
  · rw [List.getElem?_append_left (by omega), List.getElem?_take, if_pos h1, inkd_get]
    cases l[j]? with
    | none => rfl
    | some y => simp [h1, show j < i + 1 by omega]
  · rw [List.getElem?_append_right (by omega), ht]
    by_cases h2 : j = i
    · subst h2
      rw [Nat.sub_self, h]
      simp
    · rw [show j - i = (j - (i + 1)) + 1 by omega, List.getElem?_cons_succ, List.getElem?_drop, show i + 1 + (j - (i + 1)) = j by omega, inkd_get]
      cases l[j]? with
      | none => rfl
      | some y => simp [show ¬ j < i by omega, show ¬ j < i + 1 by omega]
end
/-- A row, and what has grown out of it. -/
def prS (L : Nat) (x f : DS) : Ent L where
  bl := fun k => x.d.ownBlock = some k ∨ f.d.ownBlock = some k
  P := fun w => w.ownsRow L 9 1 x.d x.ss.length (flatS x.ss) ∧ w.ownsRow L 9 1 f.d f.ss.length (flatS f.ss)
  fr := fun w w' h hP => ⟨ownsRow_same hP.1 (fun g hg => h g (Or.inl hg)), ownsRow_same hP.2 (fun g hg => h g (Or.inr hg))⟩
  lo := fun w hP g hg => by
    rcases hg with hg | hg
    · exact (dsE L x).lo w hP.1 g hg
    · exact (dsE L f).lo w hP.2 g hg
def plS (L : Nat) : List DS → List DS → List (Ent L)
  | x :: xs, f :: fs => prS L x f :: plS L xs fs
  | xs, [] => xs.map (dsE L)
  | [], _ :: _ => []
theorem plS_nil (L : Nat) (xs : List DS) : plS L xs [] = xs.map (dsE L) := by cases xs <;> rfl
theorem plS_split (L : Nat) : ∀ (A B : List DS) (x : DS) (fs : List DS), fs.length = A.length → plS L (A ++ x :: B) fs = plS L A fs ++ dsE L x :: B.map (dsE L)
  | [], B, x, [], _ => by simp [plS_nil]
  | a :: A, B, x, f :: fs, h => by
    show prS L a f :: plS L (A ++ x :: B) fs = prS L a f :: (plS L A fs ++ dsE L x :: B.map (dsE L))
    rw [plS_split L A B x fs (by simpa using h)]
  | [], _, _, _ :: _, h => by simp at h
  | _ :: _, _, _, [], h => by simp at h
theorem plS_snoc (L : Nat) : ∀ (A B : List DS) (x f : DS) (fs : List DS), fs.length = A.length → plS L (A ++ x :: B) (fs ++ [f]) = plS L A fs ++ prS L x f :: B.map (dsE L)
  | [], B, x, f, [], _ => by
    show prS L x f :: plS L B [] = _
    rw [plS_nil]
    rfl
  | a :: A, B, x, f, g :: fs, h => by
    show prS L a g :: plS L (A ++ x :: B) (fs ++ [f]) = prS L a g :: (plS L A fs ++ prS L x f :: B.map (dsE L))
    rw [plS_snoc L A B x f fs (by simpa using h)]
  | [], _, _, _, _ :: _, h => by simp at h
  | _ :: _, _, _, _, [], h => by simp at h
theorem plS_mem (L : Nat) : ∀ (xs fs : List DS) (i : Nat) (x f : DS), xs[i]? = some x → fs[i]? = some f → prS L x f ∈ plS L xs fs
  | y :: xs, g :: fs, 0, x, f, h1, h2 => by
    simp at h1 h2
    subst h1; subst h2
    exact List.mem_cons_self ..
  | y :: xs, g :: fs, i + 1, x, f, h1, h2 => List.mem_cons_of_mem _ (plS_mem L xs fs i x f (by simpa using h1) (by simpa using h2))
  | [], _, i, x, f, h1, _ => by simp at h1
  | _ :: _, [], i, x, f, _, h2 => by simp at h2
/-- What has grown grows on. -/
theorem grow_prS {a : PA} {kl wl : Value} {KL : List (List UInt8)} {WT WL : List ((Int × Int) × OpA)} {own0 : Nat → Prop} {w0 w w' : World} {C : Array Value} {A R : List (Ent a.S0)} {x f f' : DS} (h : AS a kl wl KL WT WL own0 w0 C (A ++ prS a.S0 x f :: R) w) (hn : x.ss.length ≤ f.ss.length)
    (ho : w'.ownsRow a.S0 9 1 f'.d f'.ss.length (flatS f'.ss)) (hg : Grew w w' f.d f'.d) (hin : ∀ (d : Value) (n' base' : Nat) (zs : List Value), n' ≤ f.ss.length → d.ownBlock = f.d.ownBlock → w.ownsRow base' 9 1 d n' zs → w'.ownsRow base' 9 1 d n' zs) :
    AS a kl wl KL WT WL own0 w0 C (A ++ prS a.S0 x f' :: R) w' := by
  have hP : (prS a.S0 x f).P w := h.h.all _ (by simp)
  refine h.mid (hg.chg.mono (fun k _ e => Or.inr e)) (e' := prS a.S0 x f') ⟨?_, ho⟩ (fun k hk => ?_)
  · by_cases e : x.d.ownBlock = f.d.ownBlock
    · exact hin x.d x.ss.length a.S0 _ hn e hP.1
    · refine ownsRow_same hP.1 (fun g hg1 => hg.chg.block g (ownsRow_lt hP.1 hg1).2 (fun e2 => e (hg1.trans e2.symm)))
  · rcases hk with hk | hk
    · exact Or.inl (Or.inl hk)
    · rcases hg.at' k hk with h1 | h1
      · exact Or.inl (Or.inr h1)
      · exact Or.inr h1
/-- A row, and what has grown out of it. -/
def prC (L : Nat) (x f : DC) : Ent L where
  bl := fun k => x.d.ownBlock = some k ∨ f.d.ownBlock = some k
  P := fun w => w.ownsRow L 37 2 x.d x.cs.length (flatC x.cs) ∧ w.ownsRow L 37 2 f.d f.cs.length (flatC f.cs)
  fr := fun w w' h hP => ⟨ownsRow_same hP.1 (fun g hg => h g (Or.inl hg)), ownsRow_same hP.2 (fun g hg => h g (Or.inr hg))⟩
  lo := fun w hP g hg => by
    rcases hg with hg | hg
    · exact (dcE L x).lo w hP.1 g hg
    · exact (dcE L f).lo w hP.2 g hg
def plC (L : Nat) : List DC → List DC → List (Ent L)
  | x :: xs, f :: fs => prC L x f :: plC L xs fs
  | xs, [] => xs.map (dcE L)
  | [], _ :: _ => []
theorem plC_nil (L : Nat) (xs : List DC) : plC L xs [] = xs.map (dcE L) := by cases xs <;> rfl
theorem plC_split (L : Nat) : ∀ (A B : List DC) (x : DC) (fs : List DC), fs.length = A.length → plC L (A ++ x :: B) fs = plC L A fs ++ dcE L x :: B.map (dcE L)
  | [], B, x, [], _ => by simp [plC_nil]
  | a :: A, B, x, f :: fs, h => by
    show prC L a f :: plC L (A ++ x :: B) fs = prC L a f :: (plC L A fs ++ dcE L x :: B.map (dcE L))
    rw [plC_split L A B x fs (by simpa using h)]
  | [], _, _, _ :: _, h => by simp at h
  | _ :: _, _, _, [], h => by simp at h
theorem plC_snoc (L : Nat) : ∀ (A B : List DC) (x f : DC) (fs : List DC), fs.length = A.length → plC L (A ++ x :: B) (fs ++ [f]) = plC L A fs ++ prC L x f :: B.map (dcE L)
  | [], B, x, f, [], _ => by
    show prC L x f :: plC L B [] = _
    rw [plC_nil]
    rfl
  | a :: A, B, x, f, g :: fs, h => by
    show prC L a g :: plC L (A ++ x :: B) (fs ++ [f]) = prC L a g :: (plC L A fs ++ prC L x f :: B.map (dcE L))
    rw [plC_snoc L A B x f fs (by simpa using h)]
  | [], _, _, _, _ :: _, h => by simp at h
  | _ :: _, _, _, _, [], h => by simp at h
theorem plC_mem (L : Nat) : ∀ (xs fs : List DC) (i : Nat) (x f : DC), xs[i]? = some x → fs[i]? = some f → prC L x f ∈ plC L xs fs
  | y :: xs, g :: fs, 0, x, f, h1, h2 => by
    simp at h1 h2
    subst h1; subst h2
    exact List.mem_cons_self ..
  | y :: xs, g :: fs, i + 1, x, f, h1, h2 => List.mem_cons_of_mem _ (plC_mem L xs fs i x f (by simpa using h1) (by simpa using h2))
  | [], _, i, x, f, h1, _ => by simp at h1
  | _ :: _, [], i, x, f, _, h2 => by simp at h2
/-- What has grown grows on. -/
theorem grow_prC {a : PA} {kl wl : Value} {KL : List (List UInt8)} {WT WL : List ((Int × Int) × OpA)} {own0 : Nat → Prop} {w0 w w' : World} {C : Array Value} {A R : List (Ent a.S0)} {x f f' : DC} (h : AS a kl wl KL WT WL own0 w0 C (A ++ prC a.S0 x f :: R) w) (hn : x.cs.length ≤ f.cs.length)
    (ho : w'.ownsRow a.S0 37 2 f'.d f'.cs.length (flatC f'.cs)) (hg : Grew w w' f.d f'.d) (hin : ∀ (d : Value) (n' base' : Nat) (zs : List Value), n' ≤ f.cs.length → d.ownBlock = f.d.ownBlock → w.ownsRow base' 37 2 d n' zs → w'.ownsRow base' 37 2 d n' zs) :
    AS a kl wl KL WT WL own0 w0 C (A ++ prC a.S0 x f' :: R) w' := by
  have hP : (prC a.S0 x f).P w := h.h.all _ (by simp)
  refine h.mid (hg.chg.mono (fun k _ e => Or.inr e)) (e' := prC a.S0 x f') ⟨?_, ho⟩ (fun k hk => ?_)
  · by_cases e : x.d.ownBlock = f.d.ownBlock
    · exact hin x.d x.cs.length a.S0 _ hn e hP.1
    · refine ownsRow_same hP.1 (fun g hg1 => hg.chg.block g (ownsRow_lt hP.1 hg1).2 (fun e2 => e (hg1.trans e2.symm)))
  · rcases hk with hk | hk
    · exact Or.inl (Or.inl hk)
    · rcases hg.at' k hk with h1 | h1
      · exact Or.inl (Or.inr h1)
      · exact Or.inr h1
end Go.Proofs.Ytbjlaloofpdbfaa
