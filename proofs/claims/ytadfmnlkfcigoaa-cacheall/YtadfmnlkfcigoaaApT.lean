import Derived.Test.YtadfmnlkfcigoaaAgF
namespace Go.Proofs.Ytadfmnlkfcigoaa
open Go.RowKit Go.PlainAid
set_option linter.unusedVariables false
set_option linter.unusedSimpArgs false
def NZ.base (L : Nat) (z : NZ) : List (Ent L) := [z.e1 L, z.e3 L, z.e6 L, z.e7 L] ++ (z.kc.map (dcE L) ++ z.wc.map (dcE L))
theorem pac {α : Type} (a b c : List α) : (a ++ (b ++ c)).Perm (b ++ (a ++ c)) := List.perm_append_comm_assoc a b c
theorem NZ.split (L : Nat) (z : NZ) : (z.ents L).Perm (z.lc.map (dcE L) ++ z.base L) := by
  unfold NZ.ents NZ.dats NZ.base
  exact (List.Perm.append_left _ (pac _ _ _)).trans (pac _ _ _)
def PA.pre (a : PA) (s : PV) : List (Ent a.L) := [boxE a.L a.pb (pairV a.ca.cb a.rb s.mark s.z) 57, cmE a.L a.ca s.x, rcE a.L a.ca a.rb s.r]
theorem PA.pre_box (a : PA) (s : PV) : boxE a.L a.pb (pairV a.ca.cb a.rb s.mark s.z) 57 ∈ a.pre s := List.mem_cons_self ..
theorem PN.asp {a : PA} {s : PV} {w : World} (h : PN a s w) : AS (has (a.ents s)) w (a.pre s ++ (s.z.lc.map (dcE a.L) ++ s.z.base a.L)) w := h.as.perm ((s.z.split a.L).append_left (a.pre s))
section
variable {L : Nat} {own0 : Nat → Prop} {w0 w w' : World} {es Q A R : List (Ent L)} {e e' : Ent L}
theorem AS.bx {pb : Nat} {C : Array Value} {T : TypeId} (h : AS own0 w0 es w) (hm : boxE L pb C T ∈ es) (j : Nat) : w.cell? ⟨pb, j, none⟩ = C[j]? := by
  have hb : Blk w pb C T ∧ L ≤ pb := h.h.all _ hm
  exact hb.1.cell j
theorem AS.mid2 (h : AS own0 w0 (Q ++ (A ++ e :: R)) w) (hc : Chg e.bl w w') (hP : e'.P w') (hu : ∀ k, e'.bl k → e.bl k ∨ w.heap.size ≤ k) : AS own0 w0 (Q ++ (A ++ e' :: R)) w' := by
  rw [← List.append_assoc] at h ⊢
  exact h.mid hc hP hu
end
theorem split_at {α : Type} {l : List α} {i : Nat} {x : α} (h : l[i]? = some x) : l = l.take i ++ x :: l.drop (i + 1) := by
  obtain ⟨hl, rfl⟩ := List.getElem?_eq_some_iff.1 h
  rw [← List.drop_eq_getElem_cons hl, List.take_append_drop]
/-- A list whose first i are turned, each by its place. -/
def inkd {α : Type} (f : Nat → α → α) (l : List α) (i : Nat) : List α := l.mapIdx fun j x => if j < i then f j x else x
section
variable {α : Type} {f : Nat → α → α}
theorem inkd_len (l : List α) (i : Nat) : (inkd f l i).length = l.length := by simp [inkd]
theorem inkd_get (l : List α) (i j : Nat) : (inkd f l i)[j]? = (l[j]?).map fun x => if j < i then f j x else x := by simp [inkd]
theorem inkd_0 (l : List α) : inkd f l 0 = l := by
  apply List.ext_getElem?
  intro j
  rw [inkd_get]
  cases l[j]? <;> simp
theorem inkd_at {l : List α} {i : Nat} {x : α} (h : l[i]? = some x) : (inkd f l i)[i]? = some x := by rw [inkd_get, h]; simp
theorem inkd_all {l : List α} {i n : Nat} {x : α} (h : l[i]? = some x) (hn : i < n) : (inkd f l n)[i]? = some (f i x) := by rw [inkd_get, h]; simp [hn]
theorem inkd_step {l : List α} {i : Nat} {x : α} (h : l[i]? = some x) : (inkd f l i).take i ++ f i x :: (inkd f l i).drop (i + 1) = inkd f l (i + 1) := by
  apply List.ext_getElem?
  intro j
  have hil : i < l.length := (List.getElem?_eq_some_iff.1 h).1
  have ht : ((inkd f l i).take i).length = i := by rw [List.length_take, inkd_len]; omega
  rw [inkd_get]
  by_cases h1 : j < i
  · rw [List.getElem?_append_left (by omega), List.getElem?_take, if_pos h1, inkd_get]
    cases l[j]? with
    | none => rfl
    | some y => simp [h1, show j < i + 1 by omega]
  · rw [List.getElem?_append_right (by omega), ht]
    by_cases h2 : j = i
    · subst h2
      rw [Nat.sub_self, h]
      simp
    · rw [show j - i = (j - (i + 1)) + 1 by omega, List.getElem?_cons_succ, List.getElem?_drop, show i + 1 + (j - (i + 1)) = j by omega, inkd_get]
      cases l[j]? with
      | none => rfl
      | some y => simp [show ¬ j < i by omega, show ¬ j < i + 1 by omega]
end
/-- A row, and what has grown out of it. -/
def prC (L : Nat) (x f : DC) : Ent L where
  bl := fun k => x.d.ownBlock = some k ∨ f.d.ownBlock = some k
  P := fun w => w.ownsRow L 32 2 x.d x.cs.length (flatC x.cs) ∧ w.ownsRow L 32 2 f.d f.cs.length (flatC f.cs)
  fr := fun w w' h hP => ⟨ownsRow_same hP.1 (fun g hg => h g (Or.inl hg)), ownsRow_same hP.2 (fun g hg => h g (Or.inr hg))⟩
  lo := fun w hP g hg => by
    rcases hg with hg | hg
    · exact (dcE L x).lo w hP.1 g hg
    · exact (dcE L f).lo w hP.2 g hg
def plC (L : Nat) : List DC → List DC → List (Ent L)
  | x :: xs, f :: fs => prC L x f :: plC L xs fs
  | xs, [] => xs.map (dcE L)
  | [], _ :: _ => []
theorem plC_nil (L : Nat) (xs : List DC) : plC L xs [] = xs.map (dcE L) := by cases xs <;> rfl
theorem plC_split (L : Nat) : ∀ (A B : List DC) (x : DC) (fs : List DC), fs.length = A.length → plC L (A ++ x :: B) fs = plC L A fs ++ dcE L x :: B.map (dcE L)
  | [], B, x, [], _ => by simp [plC_nil]
  | a :: A, B, x, f :: fs, h => by
    show prC L a f :: plC L (A ++ x :: B) fs = prC L a f :: (plC L A fs ++ dcE L x :: B.map (dcE L))
    rw [plC_split L A B x fs (by simpa using h)]
  | [], _, _, _ :: _, h => by simp at h
  | _ :: _, _, _, [], h => by simp at h
theorem plC_snoc (L : Nat) : ∀ (A B : List DC) (x f : DC) (fs : List DC), fs.length = A.length → plC L (A ++ x :: B) (fs ++ [f]) = plC L A fs ++ prC L x f :: B.map (dcE L)
  | [], B, x, f, [], _ => by
    show prC L x f :: plC L B [] = _
    rw [plC_nil]
    rfl
  | a :: A, B, x, f, g :: fs, h => by
    show prC L a g :: plC L (A ++ x :: B) (fs ++ [f]) = prC L a g :: (plC L A fs ++ prC L x f :: B.map (dcE L))
    rw [plC_snoc L A B x f fs (by simpa using h)]
  | [], _, _, _, _ :: _, h => by simp at h
  | _ :: _, _, _, _, [], h => by simp at h
theorem plC_mem (L : Nat) : ∀ (xs fs : List DC) (i : Nat) (x f : DC), xs[i]? = some x → fs[i]? = some f → prC L x f ∈ plC L xs fs
  | y :: xs, g :: fs, 0, x, f, h1, h2 => by
    simp at h1 h2
    subst h1; subst h2
    exact List.mem_cons_self ..
  | y :: xs, g :: fs, i + 1, x, f, h1, h2 => List.mem_cons_of_mem _ (plC_mem L xs fs i x f (by simpa using h1) (by simpa using h2))
  | [], _, i, x, f, h1, _ => by simp at h1
  | _ :: _, [], i, x, f, _, h2 => by simp at h2
/-- What has grown grows on. -/
theorem grow2_prC {L : Nat} {own0 : Nat → Prop} {w0 w w' : World} {Q A R : List (Ent L)} {x f f' : DC} (h : AS own0 w0 (Q ++ (A ++ prC L x f :: R)) w) (hn : x.cs.length ≤ f.cs.length)
    (ho : w'.ownsRow L 32 2 f'.d f'.cs.length (flatC f'.cs)) (hg : Grew w w' f.d f'.d) (hin : ∀ (d : Value) (n' base' : Nat) (zs : List Value), n' ≤ f.cs.length → d.ownBlock = f.d.ownBlock → w.ownsRow base' 32 2 d n' zs → w'.ownsRow base' 32 2 d n' zs) :
    AS own0 w0 (Q ++ (A ++ prC L x f' :: R)) w' := by
  have hP : (prC L x f).P w := h.h.all _ (by simp)
  refine h.mid2 (hg.chg.mono (fun k _ e => Or.inr e)) (e' := prC L x f') ⟨?_, ho⟩ (fun k hk => ?_)
  · by_cases e : x.d.ownBlock = f.d.ownBlock
    · exact hin x.d x.cs.length L _ hn e hP.1
    · refine ownsRow_same hP.1 (fun g hg1 => hg.chg.block g (ownsRow_lt hP.1 hg1).2 (fun e2 => e (hg1.trans e2.symm)))
  · rcases hk with hk | hk
    · exact Or.inl (Or.inl hk)
    · rcases hg.at' k hk with h1 | h1
      · exact Or.inl (Or.inr h1)
      · exact Or.inr h1
theorem isz79 : (Try.prog.info? 79).map (·.size) = some 1 := by kernel_rfl
theorem tail_cell {w : World} {L e n g off cap j : Nat} {xs : List Value} {u : Value} (h : Tail w L e (.slice (some ⟨g, off, none⟩) n cap) n xs) (hu : xs[j]? = some u) : w.cell? ⟨g, off + j, none⟩ = some u := by
  rcases h.2 with ⟨h1, _⟩ | ⟨g', off', cap', h1, _, _, _, h2⟩
  · cases h1
  · cases h1
    exact h2 j u hu
def inkC (j : Nat) (x : DC) : DC := ⟨x.d, List.replicate x.cs.length ((-1 - (j : Int), 0) : Int × Int)⟩
theorem chkC {L : Nat} {w : World} {x f : DC} {m p : Int × Int} {n : Nat} (hP : (prC L x f).P w) (hx : x.cs = List.replicate n m) (hf : f.cs = x.cs ++ List.replicate 100 p) :
    ∃ aox capx gx gf capf, x.d = .slice aox n capx ∧ n ≤ capx ∧ (0 < n → aox = some ⟨gx, 0, none⟩) ∧ f.d = .slice (some ⟨gf, 0, none⟩) (n + 100) capf ∧ n + 100 ≤ capf ∧ (∀ j, j < n → w.cell? ⟨gx, j * 2, none⟩ = some (.int .i64 m.1) ∧ w.cell? ⟨gf, j * 2, none⟩ = some (.int .i64 m.1)) ∧ ∀ j, n ≤ j → j < n + 100 → w.cell? ⟨gf, j * 2, none⟩ = some (.int .i64 p.1) := by
  obtain ⟨h1, h2⟩ := hP
  rw [hx] at hf h1
  rw [hf] at h2
  simp only [List.length_append, List.length_replicate] at h1 h2
  obtain ⟨ao, cap, e1, hc1, _, c1⟩ := own_read h1
  obtain ⟨ao2, cap2, e2, hc2, _, c2⟩ := own_read h2
  obtain ⟨gf, rfl, _, _, _⟩ := c2 (by omega)
  rw [e2] at h2
  have k2 : ∀ j, j < n + 100 → w.cell? ⟨gf, j * 2, none⟩ = some (.int .i64 (if j < n then m else p).1) := fun j hj => (cellC h2 (by
    by_cases h : j < n
    · rw [List.getElem?_append_left (by simpa using h), List.getElem?_replicate, if_pos h, if_pos h]
    · rw [List.getElem?_append_right (by simpa using h), List.getElem?_replicate, if_pos (by simp; omega), if_neg h])).1
  by_cases h0 : 0 < n
  · obtain ⟨gx, rfl, _, _, _⟩ := c1 h0
    rw [e1] at h1
    refine ⟨_, _, gx, gf, _, e1, hc1, fun _ => rfl, e2, hc2, fun j hj => ⟨(cellC h1 (c := m) (by rw [List.getElem?_replicate, if_pos hj])).1, ?_⟩, fun j h1 h2 => ?_⟩
    · have := k2 j (by omega); rwa [if_pos hj] at this
    · have := k2 j h2; rwa [if_neg (by omega)] at this
  · refine ⟨_, _, 0, gf, _, e1, hc1, fun h => absurd h h0, e2, hc2, fun j hj => absurd hj (by omega), fun j h1 h2 => ?_⟩
    have := k2 j h2; rwa [if_neg (by omega)] at this
end Go.Proofs.Ytadfmnlkfcigoaa
