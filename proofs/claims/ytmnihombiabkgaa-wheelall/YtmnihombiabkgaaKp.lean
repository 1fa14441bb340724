import Derived.Test.YtmnihombiabkgaaRfL
namespace Go.Proofs.Ytmnihombiabkgaa
open Go.RowKit Go.PlainAid Go.MapKept
set_option linter.unusedVariables false
set_option linter.unusedSimpArgs false
theorem wpList_appI {w : World} {ops : Array Oper} {rest : List Oper} {o : Oper} {a : Act} {Q : Exit → Act → World → Prop} (hgd : o.guard = none) (s x : Operand)
    (ho : o.op = .call { callee := .builtin .append, args := #[s, x], argTypes := #[22, 22] })
    (base k : Nat) (v : Value) (zs : List Int) (hs : a.eval s = v) (hown : w.ownsRow base 3 1 v k (zs.map I)) (z : Int) {g : Nat} (hx : a.eval x = .slice (some ⟨g, 0, none⟩) 1 1) (hgs : g = w.heap.size) (hlen : (k + 1) * 8 ≤ 140737488355328) (hbase : base ≤ w.heap.size)
    (h : ∀ v' w', w'.ownsRow base 3 1 v' (k + 1) ((zs ++ [z]).map I) → Grew w w' v v' → (∀ (d : Value) (n base' : Nat) (ys : List Value), n ≤ k → d.ownBlock = v.ownBlock → w.ownsRow base' 3 1 d n ys → w'.ownsRow base' 3 1 d n ys) → wpList Try.prog ops Q rest (a.put o.dst v') w') :
    wpList Try.prog ops Q (o :: rest) a (w.alloc (.cells #[.int .i64 z] 3)) := by
  subst hgs
  refine wpList_app 22 3 (.int .i64 0) 1 8 Try.underlying22 info3 rfl (by decide) (by decide) hgd s x ho base k v (zs.map I) hs (hown.alloc _) ⟨w.heap.size, 0, none⟩ 1 1 [I z] hx rfl (fun j u hu => ?_) (fun u hu => by rw [List.mem_singleton.1 hu]; rfl) hlen (by rw [World.size_alloc]; omega) ?_
  · have hB : Blk (w.alloc (.cells #[.int .i64 z] 3)) w.heap.size #[.int .i64 z] 3 := heap_alloc_new w _
    rw [addr_add, Nat.zero_add, hB.cell j]
    match j with
    | 0 => simpa [I] using hu
    | j + 1 => simp at hu
  · intro v' w' h1 h2 h3
    exact h v' w' (by rw [List.map_append]; exact h1) h2.ofAlloc (fun d n base' ys hn hd hod => h3 d n base' ys hn hd (hod.alloc _))
theorem info33 : (Try.prog.info? 33).map (fun i => (i.zero, i.size, i.bytes)) = some (some (.slice none 0 0), 1, 24) := by kernel_rfl
structure Ent where
  v : Value
  n : Nat
  m : Int
def mk9 (m : Int) : Tm := ⟨-9, m, 0, 0⟩
def fullT (n : Nat) (m : Int) : List Value := flatT (List.replicate n (mk9 m))
theorem fullT_succ (n : Nat) (m : Int) : fullT (n + 1) m = fullT n m ++ (mk9 m).row := by unfold fullT; rw [List.replicate_succ', flatT_app]; simp [flatT]
theorem ty_ne {w : World} {L1 L2 t1 t2 s1 s2 n1 n2 : Nat} {u v : Value} {xs ys : List Value} (h1 : w.ownsRow L1 t1 s1 u n1 xs) (h2 : w.ownsRow L2 t2 s2 v n2 ys) (ht : t1 ≠ t2) (g : Nat) (e1 : u.ownBlock = some g) : v.ownBlock ≠ some g := fun e2 => by
  obtain ⟨c1, q1⟩ := ownsRow_type h1 e1
  obtain ⟨c2, q2⟩ := ownsRow_type h2 e2
  exact Blk.ne_t q1 q2 ht rfl
theorem kb_ne {w : World} {L t s n kb : Nat} {v : Value} {xs : List Value} {C : Array Value} (h1 : w.ownsRow L t s v n xs) (h2 : Blk w kb C 64) (ht : t ≠ 64) (g : Nat) (e1 : v.ownBlock = some g) : g ≠ kb := by
  obtain ⟨c1, q1⟩ := ownsRow_type h1 e1
  exact Blk.ne_t q1 h2 ht
/-- A keep whose lists are written over at once. -/
structure KE (L kb : Nat) (vI vM : Value) (e1 e2 : List Ent) (w : World) : Prop where
  blk : Blk w kb #[.bool false, vI, .slice none 0 0, vM] 64
  xi : w.ownsRow L 33 1 vI e1.length (e1.map Ent.v)
  xm : w.ownsRow L 3 1 vM e2.length ((e2.map Ent.m).map I)
  en : ∀ e ∈ e1, w.ownsRow L 50 4 e.v e.n (fullT e.n e.m)
  lk : L ≤ kb
/-- Which blocks are the keep's. -/
def KB (kb : Nat) (vI vM : Value) (e1 : List Ent) (k : Nat) : Prop := k = kb ∨ vI.ownBlock = some k ∨ vM.ownBlock = some k ∨ ∃ e ∈ e1, e.v.ownBlock = some k
section
variable {L kb : Nat} {vI vM v' far far' : Value} {e1 e2 : List Ent} {w w2 : World} {B : Nat → Prop}
theorem KE.lt (h : KE L kb vI vM e1 e2 w) {k : Nat} (hk : KB kb vI vM e1 k) : L ≤ k ∧ k < w.heap.size := by
  rcases hk with rfl | e | e | ⟨x, hx, e⟩
  · exact ⟨h.lk, h.blk.lt⟩
  · exact ownsRow_lt h.xi e
  · exact ownsRow_lt h.xm e
  · exact ownsRow_lt (h.en x hx) e
theorem KE.frame (h : KE L kb vI vM e1 e2 w) (hc : Chg B w w2) (hB : ∀ k, KB kb vI vM e1 k → ¬ B k) : KE L kb vI vM e1 e2 w2 := by
  have hs := fun k (hk : KB kb vI vM e1 k) => hc.block k (h.lt hk).2 (hB k hk)
  exact ⟨hc.blk h.blk (hB kb (.inl rfl)), ownsRow_same h.xi (fun g e => hs g (.inr (.inl e))), ownsRow_same h.xm (fun g e => hs g (.inr (.inr (.inl e)))), fun x hx => ownsRow_same (h.en x hx) (fun g e => hs g (.inr (.inr (.inr ⟨x, hx, e⟩)))), h.lk⟩
theorem KE.more (h : KE L kb vI vM e1 e2 w) (hb : Below w.heap.size w w2) : KE L kb vI vM e1 e2 w2 := h.frame (Chg.ofBelow (fun _ => False) hb) (fun _ _ e => e)
/-- A list is put behind the others. -/
theorem KE.addI (h : KE L kb vI vM e1 e2 w) (x : Ent) (hx : w.ownsRow L 50 4 x.v x.n (fullT x.n x.m))
    (h1 : w2.ownsRow L 33 1 v' (e1.length + 1) ((e1 ++ [x]).map Ent.v)) (h2 : Grew w w2 vI v') :
    KE L kb v' vM (e1 ++ [x]) e2 (w2.setCell ⟨kb, 1, none⟩ v') ∧ w2.frozen? ⟨kb, 1, none⟩ = false ∧ w2.cell? ⟨kb, 1, none⟩ = some vI ∧ Chg (fun k => k = kb ∨ vI.ownBlock = some k) w (w2.setCell ⟨kb, 1, none⟩ v') := by
  have hlt : ∀ g, vI.ownBlock = some g → g ≠ kb := kb_ne h.xi h.blk (by decide)
  have hk2 : Blk w2 kb #[.bool false, vI, .slice none 0 0, vM] 64 := h2.chg.blk h.blk (fun e => hlt kb e rfl)
  have hc : Chg (fun k => k = kb ∨ vI.ownBlock = some k) w (w2.setCell ⟨kb, 1, none⟩ v') := (h2.chg.mono (fun j _ e => Or.inr e)).trans (setCell_chg _ _ _ _) (fun j _ e => Or.inl e)
  have hB : ∀ {t s n : Nat} {u : Value} {xs : List Value}, w.ownsRow L t s u n xs → t ≠ 64 → t ≠ 33 → (w2.setCell ⟨kb, 1, none⟩ v').ownsRow L t s u n xs := fun hu h44 hts => ownsRow_same hu (fun g e => hc.block g (ownsRow_lt hu e).2 (fun hb => by
    rcases hb with hb | hb
    · exact kb_ne hu h.blk h44 g e hb
    · exact ty_ne hu h.xi hts g e hb))
  have hnew : (w2.setCell ⟨kb, 1, none⟩ v').ownsRow L 33 1 v' (e1 ++ [x]).length ((e1 ++ [x]).map Ent.v) := by
    rw [List.length_append]
    refine ownsRow_same h1 (fun g e => Below.heap_setCell _ _ _ _ (fun e2 => ?_))
    have : kb < w.heap.size := h.blk.lt
    replace e2 : g = kb := e2
    rcases h2.at' g e with q | q
    · exact hlt g q e2
    · omega
  exact ⟨⟨hk2.set 1 v', hnew, hB h.xm (by decide) (by decide), fun e he => by rcases List.mem_append.1 he with q | q; exact hB (h.en e q) (by decide) (by decide); rw [List.mem_singleton.1 q]; exact hB hx (by decide) (by decide), h.lk⟩, hk2.frozen _, hk2.cell _, hc⟩
/-- A mark is put behind the others. -/
theorem KE.markI (h : KE L kb vI vM e1 e2 w) (x : Ent) (h1 : w2.ownsRow L 3 1 v' (e2.length + 1) ((e2.map Ent.m ++ [x.m]).map I)) (h2 : Grew w w2 vM v') :
    KE L kb vI v' e1 (e2 ++ [x]) (w2.setCell ⟨kb, 3, none⟩ v') ∧ w2.frozen? ⟨kb, 3, none⟩ = false ∧ w2.cell? ⟨kb, 3, none⟩ = some vM ∧ Chg (fun k => k = kb ∨ vM.ownBlock = some k) w (w2.setCell ⟨kb, 3, none⟩ v') := by
  have hlt : ∀ g, vM.ownBlock = some g → g ≠ kb := kb_ne h.xm h.blk (by decide)
  have hk2 : Blk w2 kb #[.bool false, vI, .slice none 0 0, vM] 64 := h2.chg.blk h.blk (fun e => hlt kb e rfl)
  have hc : Chg (fun k => k = kb ∨ vM.ownBlock = some k) w (w2.setCell ⟨kb, 3, none⟩ v') := (h2.chg.mono (fun j _ e => Or.inr e)).trans (setCell_chg _ _ _ _) (fun j _ e => Or.inl e)
  have hB : ∀ {t s n : Nat} {u : Value} {xs : List Value}, w.ownsRow L t s u n xs → t ≠ 64 → t ≠ 3 → (w2.setCell ⟨kb, 3, none⟩ v').ownsRow L t s u n xs := fun hu h44 hts => ownsRow_same hu (fun g e => hc.block g (ownsRow_lt hu e).2 (fun hb => by
    rcases hb with hb | hb
    · exact kb_ne hu h.blk h44 g e hb
    · exact ty_ne hu h.xm hts g e hb))
  have hnew : (w2.setCell ⟨kb, 3, none⟩ v').ownsRow L 3 1 v' (e2 ++ [x]).length (((e2 ++ [x]).map Ent.m).map I) := by
    rw [List.length_append, List.map_append]
    refine ownsRow_same h1 (fun g e => Below.heap_setCell _ _ _ _ (fun e2 => ?_))
    have : kb < w.heap.size := h.blk.lt
    replace e2 : g = kb := e2
    rcases h2.at' g e with q | q
    · exact hlt g q e2
    · omega
  exact ⟨⟨hk2.set 3 v', hB h.xi (by decide) (by decide), hnew, fun e he => hB (h.en e he) (by decide) (by decide), h.lk⟩, hk2.frozen _, hk2.cell _, hc⟩
/-- A list that is held grows. -/
theorem KE.farI {nf : Nat} {xs : List Value} (h : KE L kb vI vM e1 e2 w) (hf : w.ownsRow L 50 4 far nf xs) (hle : ∀ e ∈ e1, ∀ g, far.ownBlock = some g → e.v.ownBlock = some g → e.n ≤ nf)
    (h2 : Grew w w2 far far') (h3 : ∀ (d : Value) (n base' : Nat) (zs : List Value), n ≤ nf → d.ownBlock = far.ownBlock → w.ownsRow base' 50 4 d n zs → w2.ownsRow base' 50 4 d n zs) :
    KE L kb vI vM e1 e2 w2 ∧ ∀ e ∈ e1, ∀ g, far'.ownBlock = some g → e.v.ownBlock = some g → e.n ≤ nf + 1 := by
  have hc := h2.chg
  have hB : ∀ {t s n : Nat} {u : Value} {xs : List Value}, w.ownsRow L t s u n xs → (∀ g, u.ownBlock = some g → far.ownBlock ≠ some g) → w2.ownsRow L t s u n xs := fun hu hts => ownsRow_same hu (fun g e => hc.block g (ownsRow_lt hu e).2 (fun hb => hts g e hb))
  have hE : ∀ e ∈ e1, w2.ownsRow L 50 4 e.v e.n (fullT e.n e.m) := fun e he => by
    by_cases q : ∃ g, far.ownBlock = some g ∧ e.v.ownBlock = some g
    · obtain ⟨g, q1, q2⟩ := q
      exact h3 e.v e.n L _ (hle e he g q1 q2) (q2.trans q1.symm) (h.en e he)
    · exact hB (h.en e he) (fun g q1 q2 => q ⟨g, q2, q1⟩)
  refine ⟨⟨hc.blk h.blk (fun e => kb_ne hf h.blk (by decide) kb e rfl), hB h.xi (ty_ne h.xi hf (by decide)), hB h.xm (ty_ne h.xm hf (by decide)), hE, h.lk⟩, fun e he g q1 q2 => ?_⟩
  rcases h2.at' g q1 with q | q
  · have := hle e he g q q2; omega
  · have := (ownsRow_lt (h.en e he) q2).2; omega
end
end Go.Proofs.Ytmnihombiabkgaa
