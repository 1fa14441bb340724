import Derived.Test.YtcnokgphioigoaaDk0
import Derived.Test.YtcnokgphioigoaaJB
namespace Go.Proofs.Ytcnokgphioigoaa.Sh
open Go.RowKit Go.PlainAid
set_option linter.unusedVariables false
set_option linter.unusedSimpArgs false
theorem chg_setCell {w : World} {g k : Nat} (u : Value) : Chg (fun j => j = g) w (w.setCell ⟨g, k, none⟩ u) :=
  ⟨rfl, rfl, rfl, by simp, fun j hj hn => Below.heap_setCell _ _ _ _ hn⟩
def I (z : Int) : Value := .int .i64 z
/-- One of the two kinds of lists that a shelf holds. -/
structure Fam where
  te : Nat
  se : Nat
  ts : Nat
  tt : Nat
  ci : Nat
  cm : Nat
  by' : Nat
  z : Value
  mk' : Int → List Value
structure Fam.Ok (F : Fam) : Prop where
  e86 : F.te ≠ 86
  e3 : F.te ≠ 3
  es : F.te ≠ F.ts
  s86 : F.ts ≠ 86
  s3 : F.ts ≠ 3
  cc : F.ci ≠ F.cm
  ci : F.ci < 4
  cm : F.cm < 4
  ml : ∀ m, (F.mk' m).length = F.se
  mo : ∀ m, ∀ u ∈ F.mk' m, u.oneCell' = true
  s1 : 1 ≤ F.se
  b0 : 0 < F.by'
  b1 : F.by' ≤ 1000
  ut : Try.prog.underlying F.tt = some (.slice F.ts)
  it : (Try.prog.info? F.ts).map (fun i => (i.zero, i.size, i.bytes)) = some (some (.slice none 0 0), 1, 24)
  ue : Try.prog.underlying F.ts = some (.slice F.te)
  ie : (Try.prog.info? F.te).map (fun i => (i.zero, i.size, i.bytes)) = some (some F.z, F.se, F.by')
  hz : F.z.cells.size = F.se
@[reducible] def FB : Fam := ⟨5, 1, 38, 30, 1, 3, 1, .int .u8 0, fun m => [.int .u8 (m % 250 + 1)]⟩
theorem FB.ok : FB.Ok := ⟨by decide, by decide, by decide, by decide, by decide, by decide, by decide, by decide, fun _ => rfl, fun m u hu => by rw [List.mem_singleton.1 hu]; rfl, by decide, by decide, by decide, Try.underlying30, by kernel_rfl, Try.underlying38, by kernel_rfl, rfl⟩
def full (F : Fam) (n : Nat) (m : Int) : List Value := (List.replicate n (F.mk' m)).flatten
theorem full_succ (F : Fam) (n : Nat) (m : Int) : full F (n + 1) m = full F n m ++ F.mk' m := by unfold full; rw [List.replicate_succ', List.flatten_append]; simp
theorem full_len {F : Fam} (h : F.Ok) (n : Nat) (m : Int) : (full F n m).length = n * F.se := by
  induction n with
  | zero => simp [full]
  | succ n ih => rw [full_succ, List.length_append, ih, h.ml, Nat.add_mul, Nat.one_mul]
theorem full_at {F : Fam} (h : F.Ok) {n k j : Nat} {m : Int} {u : Value} (hk : k < n) (hu : (F.mk' m)[j]? = some u) : (full F n m)[k * F.se + j]? = some u := by
  have hj : j < F.se := by have := (List.getElem?_eq_some_iff.1 hu).1; rwa [h.ml] at this
  induction n with
  | zero => omega
  | succ n ih =>
    rw [full_succ]
    by_cases e : k = n
    · subst e
      rw [List.getElem?_append_right (by rw [full_len h]; omega), full_len h, Nat.add_sub_cancel_left]
      exact hu
    · have hlt : k * F.se + j < n * F.se := by
        have : (k + 1) * F.se ≤ n * F.se := Nat.mul_le_mul_right _ (by omega)
        rw [Nat.add_mul, Nat.one_mul] at this
        omega
      rw [List.getElem?_append_left (by rw [full_len h]; exact hlt)]
      exact ih (by omega)
structure Lst where
  v : Value
  n : Nat
  m : Int
theorem ty_ne {w : World} {L1 L2 t1 t2 s1 s2 n1 n2 : Nat} {u v : Value} {xs ys : List Value} (h1 : w.ownsRow L1 t1 s1 u n1 xs) (h2 : w.ownsRow L2 t2 s2 v n2 ys) (ht : t1 ≠ t2) (g : Nat) (e1 : u.ownBlock = some g) : v.ownBlock ≠ some g := fun e2 => by
  obtain ⟨c1, q1⟩ := ownsRow_type h1 e1
  obtain ⟨c2, q2⟩ := ownsRow_type h2 e2
  exact Blk.ne_t q1 q2 ht rfl
theorem kb_ne {w : World} {L t s n kb : Nat} {v : Value} {xs : List Value} {C : Array Value} (h1 : w.ownsRow L t s v n xs) (h2 : Blk w kb C 86) (ht : t ≠ 86) (g : Nat) (e1 : v.ownBlock = some g) : g ≠ kb := by
  obtain ⟨c1, q1⟩ := ownsRow_type h1 e1
  exact Blk.ne_t q1 h2 ht
/-- The lists of one kind, all written full, and their marks. -/
structure KF (F : Fam) (L : Nat) (vI vM : Value) (es ms : List Lst) (w : World) : Prop where
  xi : w.ownsRow L F.ts 1 vI es.length (es.map Lst.v)
  xm : w.ownsRow L 3 1 vM ms.length ((ms.map Lst.m).map I)
  en : ∀ e ∈ es, w.ownsRow L F.te F.se e.v e.n (full F e.n e.m)
/-- Their blocks. -/
def KFB (vI vM : Value) (es : List Lst) (k : Nat) : Prop := vI.ownBlock = some k ∨ vM.ownBlock = some k ∨ ∃ e ∈ es, e.v.ownBlock = some k
theorem KF.lt {F : Fam} {L : Nat} {vI vM : Value} {es ms : List Lst} {w : World} (h : KF F L vI vM es ms w) {k : Nat} (hk : KFB vI vM es k) : L ≤ k ∧ k < w.heap.size := by
  rcases hk with e | e | ⟨x, hx, e⟩
  · exact ownsRow_lt h.xi e
  · exact ownsRow_lt h.xm e
  · exact ownsRow_lt (h.en x hx) e
theorem KF.frame {F : Fam} {L : Nat} {vI vM : Value} {es ms : List Lst} {w w2 : World} {B : Nat → Prop} (h : KF F L vI vM es ms w) (hc : Chg B w w2) (hB : ∀ k, KFB vI vM es k → ¬ B k) : KF F L vI vM es ms w2 := by
  have hs := fun k (hk : KFB vI vM es k) => hc.block k (h.lt hk).2 (hB k hk)
  exact ⟨ownsRow_same h.xi (fun g e => hs g (.inl e)), ownsRow_same h.xm (fun g e => hs g (.inr (.inl e))), fun x hx => ownsRow_same (h.en x hx) (fun g e => hs g (.inr (.inr ⟨x, hx, e⟩)))⟩
/-- What the other kind does leaves these as they are. -/
theorem KF.other {F G : Fam} {L kb n1 n2 : Nat} {vI vM v0 m0 l : Value} {es ms : List Lst} {w w2 : World} {C : Array Value} {xs1 xs2 xs3 : List Value} (hG : G.Ok) (hF : F.Ok) (h1 : G.ts ≠ F.ts) (h2 : G.ts ≠ F.te) (h3 : G.te ≠ F.ts) (h4 : G.te ≠ F.te) (h : KF G L vI vM es ms w)
    (hb : Blk w kb C 86) (hi : w.ownsRow L F.ts 1 v0 n1 xs1) (hm : w.ownsRow L 3 1 m0 n2 xs2) {n3 : Nat} (hl : w.ownsRow L F.te F.se l n3 xs3) (hmm : ∀ g, vM.ownBlock = some g → m0.ownBlock ≠ some g)
    (hc : Chg (fun k => k = kb ∨ v0.ownBlock = some k ∨ m0.ownBlock = some k ∨ l.ownBlock = some k) w w2) : KF G L vI vM es ms w2 := by
  refine h.frame hc (fun k hk hB => ?_)
  rcases hk with e | e | ⟨x, hx, e⟩
  · rcases hB with q | q | q | q
    · exact kb_ne h.xi hb hG.s86 k e q
    · exact ty_ne h.xi hi h1 k e q
    · exact ty_ne h.xi hm hG.s3 k e q
    · exact ty_ne h.xi hl h2 k e q
  · rcases hB with q | q | q | q
    · exact kb_ne h.xm hb (by decide) k e q
    · exact ty_ne h.xm hi (Ne.symm hF.s3) k e q
    · exact hmm k e q
    · exact ty_ne h.xm hl (Ne.symm hF.e3) k e q
  · rcases hB with q | q | q | q
    · exact kb_ne (h.en x hx) hb hG.e86 k e q
    · exact ty_ne (h.en x hx) hi h3 k e q
    · exact ty_ne (h.en x hx) hm hG.e3 k e q
    · exact ty_ne (h.en x hx) hl h4 k e q
end Go.Proofs.Ytcnokgphioigoaa.Sh
namespace Go.Proofs.Ytcnokgphioigoaa.Sh
open Go.RowKit Go.PlainAid
set_option linter.unusedVariables false
set_option linter.unusedSimpArgs false
theorem set_ci {C : Array Value} {i j : Nat} {a b v : Value} (h : i ≠ j) : ((C.setIfInBounds i a).setIfInBounds j b).setIfInBounds i v = (C.setIfInBounds i v).setIfInBounds j b := by
  rw [Array.setIfInBounds_comm _ _ (Ne.symm h), Array.setIfInBounds_setIfInBounds]
theorem set_cm {C : Array Value} {i j : Nat} {a b v : Value} : ((C.setIfInBounds i a).setIfInBounds j b).setIfInBounds j v = (C.setIfInBounds i a).setIfInBounds j v := Array.setIfInBounds_setIfInBounds _
theorem get_ci {C : Array Value} {i j : Nat} {a b : Value} (h : i ≠ j) (hi : i < C.size) : ((C.setIfInBounds i a).setIfInBounds j b)[i]? = some a := by
  rw [Array.getElem?_setIfInBounds_ne (Ne.symm h), Array.getElem?_setIfInBounds_self_of_lt hi]
theorem get_cm {C : Array Value} {i j : Nat} {a b : Value} (hj : j < C.size) : ((C.setIfInBounds i a).setIfInBounds j b)[j]? = some b := Array.getElem?_setIfInBounds_self_of_lt (by simpa using hj)
/-- A list that is being held. -/
structure HS (F : Fam) (L kb : Nat) (C : Array Value) (vI0 vM0 l : Value) (es0 : List Lst) (w : World) (vI vM far : Value) (es ms : List Lst) (nf : Nat) (m : Int) (wr : World) : Prop where
  blk : Blk wr kb ((C.setIfInBounds F.ci vI).setIfInBounds F.cm vM) 86
  kf : KF F L vI vM es ms wr
  fr : wr.ownsRow L F.te F.se far nf (full F nf m)
  le : ∀ e ∈ es, ∀ g, far.ownBlock = some g → e.v.ownBlock = some g → e.n ≤ nf
  chg : Chg (fun k => k = kb ∨ vI0.ownBlock = some k ∨ vM0.ownBlock = some k ∨ l.ownBlock = some k) w wr
  ni : ∀ g, vI.ownBlock = some g → vI0.ownBlock = some g ∨ w.heap.size ≤ g
  nm : ∀ g, vM.ownBlock = some g → vM0.ownBlock = some g ∨ w.heap.size ≤ g
  nl : ∀ g, far.ownBlock = some g → l.ownBlock = some g ∨ w.heap.size ≤ g
  ne : ∀ e ∈ es, ∀ g, e.v.ownBlock = some g → (∃ e0 ∈ es0, e0.v.ownBlock = some g) ∨ l.ownBlock = some g ∨ w.heap.size ≤ g
  mrk : ∀ e ∈ es, e ∈ es0 ∨ e.m = m
  cs : C.size = 4
  lk : L ≤ kb
section
variable {F : Fam} {L kb : Nat} {C : Array Value} {vI0 vM0 l : Value} {es0 : List Lst} {w : World} {vI vM far far' v' : Value} {es ms : List Lst} {nf : Nat} {m : Int} {wr w2 : World}
theorem HS.cI (hF : F.Ok) (h : HS F L kb C vI0 vM0 l es0 w vI vM far es ms nf m wr) : wr.cell? ⟨kb, F.ci, none⟩ = some vI := by rw [h.blk.cell, get_ci hF.cc (by rw [h.cs]; exact hF.ci)]
theorem HS.cM (hF : F.Ok) (h : HS F L kb C vI0 vM0 l es0 w vI vM far es ms nf m wr) : wr.cell? ⟨kb, F.cm, none⟩ = some vM := by rw [h.blk.cell, get_cm (by rw [h.cs]; exact hF.cm)]
theorem HS.wpI (hF : F.Ok) (h : HS F L kb C vI0 vM0 l es0 w vI vM far es ms nf m wr) (hlen : (es.length + 1) * 24 ≤ 140737488355328) {ops : Array Oper} {rest : List Oper} {o : Oper} {a : Act} {Q : Exit → Act → World → Prop} (hgd : o.guard = none) (s x : Operand)
    (ho : o.op = .call { callee := .builtin .append, args := #[s, x], argTypes := #[F.tt, F.tt] }) (hs : a.eval s = vI) {g0 : Nat} (hx : a.eval x = .slice (some ⟨g0, 0, none⟩) 1 1) (hg0 : g0 = wr.heap.size)
    (hh : ∀ vo vc w2, w2.frozen? ⟨kb, F.ci, none⟩ = false → w2.cell? ⟨kb, F.ci, none⟩ = some vI → Hid (HS F L kb C vI0 vM0 l es0 w (.slice vo (es.length + 1) vc) vM far (es ++ [⟨far, nf, m⟩]) ms nf m (w2.setCell ⟨kb, F.ci, none⟩ (.slice vo (es.length + 1) vc))) → wpList Try.prog ops Q rest (a.put o.dst (.slice vo (es.length + 1) vc)) w2) : wpList Try.prog ops Q (o :: rest) a (wr.alloc (.cells #[far] F.ts)) := by
  subst hg0
  have hB : Blk (wr.alloc (.cells #[far] F.ts)) wr.heap.size #[far] F.ts := heap_alloc_new wr _
  obtain ⟨fo, fc, hff, _⟩ := own_slice h.fr
  have hlw : L ≤ wr.heap.size := Nat.le_trans h.lk (Nat.le_of_lt h.blk.lt)
  refine wpList_app F.tt F.ts (.slice none 0 0) 1 24 hF.ut hF.it rfl (by decide) (by decide) hgd s x ho L es.length vI (es.map Lst.v) hs (h.kf.xi.alloc _) ⟨wr.heap.size, 0, none⟩ 1 1 [far] hx rfl (fun j u hu => ?_) (fun u hu => by rw [List.mem_singleton.1 hu, hff]; rfl) hlen (by rw [World.size_alloc]; omega) ?_
  · rw [addr_add, Nat.zero_add, hB.cell j]
    match j with
    | 0 => simpa using hu
    | j + 1 => simp at hu
  · intro v2 w2 h1 h2 _
    obtain ⟨vo, vc, rfl, _⟩ := own_slice h1
    have hg := h2.ofAlloc
    have hlt : ∀ g, vI.ownBlock = some g → g ≠ kb := kb_ne h.kf.xi h.blk hF.s86
    have hk2 := (Grew.chg hg).blk h.blk (fun e => hlt kb e rfl)
    have hc : Chg (fun k => k = kb ∨ vI.ownBlock = some k) wr (w2.setCell ⟨kb, F.ci, none⟩ (.slice vo (es.length + 1) vc)) := ((Grew.chg hg).mono (fun j _ e => Or.inr e)).trans (chg_setCell _) (fun j _ e => Or.inl e)
    have hR : ∀ {t s n : Nat} {u : Value} {xs : List Value}, wr.ownsRow L t s u n xs → t ≠ 86 → t ≠ F.ts → (w2.setCell ⟨kb, F.ci, none⟩ (.slice vo (es.length + 1) vc)).ownsRow L t s u n xs := fun hu h44 hts => ownsRow_same hu (fun g e => hc.block g (ownsRow_lt hu e).2 (fun hb => by
      rcases hb with hb | hb
      · exact kb_ne hu h.blk h44 g e hb
      · exact ty_ne hu h.kf.xi hts g e hb))
    have hnew : (w2.setCell ⟨kb, F.ci, none⟩ (.slice vo (es.length + 1) vc)).ownsRow L F.ts 1 (.slice vo (es.length + 1) vc) (es ++ [(⟨far, nf, m⟩ : Lst)]).length ((es ++ [(⟨far, nf, m⟩ : Lst)]).map Lst.v) := by
      rw [List.length_append, List.map_append]
      refine ownsRow_same h1 (fun g e => Below.heap_setCell _ _ _ _ (fun e2 => ?_))
      have : kb < wr.heap.size := h.blk.lt
      replace e2 : g = kb := e2
      rcases hg.at' g e with q | q
      · exact hlt g q e2
      · omega
    have hbk := hk2.set F.ci (.slice vo (es.length + 1) vc)
    rw [set_ci hF.cc] at hbk
    refine hh vo vc w2 (hk2.frozen _) (by rw [hk2.cell, get_ci hF.cc (by rw [h.cs]; exact hF.ci)]) ⟨hbk, ⟨hnew, hR h.kf.xm (by decide) (Ne.symm hF.s3), fun e he => by rcases List.mem_append.1 he with q | q; exact hR (h.kf.en e q) hF.e86 hF.es; rw [List.mem_singleton.1 q]; exact hR h.fr hF.e86 hF.es⟩, hR h.fr hF.e86 hF.es, ?_, ?_, ?_, h.nm, h.nl, ?_, fun e he => by rcases List.mem_append.1 he with q | q; exact h.mrk e q; rw [List.mem_singleton.1 q]; exact .inr rfl, h.cs, h.lk⟩
    · intro e he g q1 q2
      rcases List.mem_append.1 he with q | q
      · exact h.le e q g q1 q2
      · rw [List.mem_singleton.1 q]; exact Nat.le_refl _
    · refine h.chg.trans hc (fun j hj hb => ?_)
      rcases hb with hb | hb
      · exact .inl hb
      · rcases h.ni j hb with q | q
        · exact .inr (.inl q)
        · omega
    · intro g e
      rcases hg.at' g e with q | q
      · exact h.ni g q
      · exact .inr (Nat.le_trans h.chg.size q)
    · intro e he g q1
      rcases List.mem_append.1 he with q | q
      · exact h.ne e q g q1
      · rw [List.mem_singleton.1 q] at q1
        exact .inr (h.nl g q1)
theorem HS.wpM (hF : F.Ok) (h : HS F L kb C vI0 vM0 l es0 w vI vM far es ms nf m wr) (hlen : (ms.length + 1) * 24 ≤ 140737488355328) {ops : Array Oper} {rest : List Oper} {o : Oper} {a : Act} {Q : Exit → Act → World → Prop} (hgd : o.guard = none) (s x : Operand)
    (ho : o.op = .call { callee := .builtin .append, args := #[s, x], argTypes := #[24, 24] }) (hs : a.eval s = vM) {g0 : Nat} (hx : a.eval x = .slice (some ⟨g0, 0, none⟩) 1 1) (hg0 : g0 = wr.heap.size)
    (hh : ∀ vo vc w2, w2.frozen? ⟨kb, F.cm, none⟩ = false → w2.cell? ⟨kb, F.cm, none⟩ = some vM → Hid (HS F L kb C vI0 vM0 l es0 w vI (.slice vo (ms.length + 1) vc) far es (ms ++ [⟨far, nf, m⟩]) nf m (w2.setCell ⟨kb, F.cm, none⟩ (.slice vo (ms.length + 1) vc))) → wpList Try.prog ops Q rest (a.put o.dst (.slice vo (ms.length + 1) vc)) w2) : wpList Try.prog ops Q (o :: rest) a (wr.alloc (.cells #[.int .i64 m] 3)) := by
  subst hg0
  have hB : Blk (wr.alloc (.cells #[.int .i64 m] 3)) wr.heap.size #[.int .i64 m] 3 := heap_alloc_new wr _
  have hlw : L ≤ wr.heap.size := Nat.le_trans h.lk (Nat.le_of_lt h.blk.lt)
  refine wpList_app 24 3 (.int .i64 0) 1 8 Try.underlying24 info3 rfl (by decide) (by decide) hgd s x ho L ms.length vM ((ms.map Lst.m).map I) hs (h.kf.xm.alloc _) ⟨wr.heap.size, 0, none⟩ 1 1 [.int .i64 m] hx rfl (fun j u hu => ?_) (fun u hu => by rw [List.mem_singleton.1 hu]; rfl) (by omega) (by rw [World.size_alloc]; omega) ?_
  · rw [addr_add, Nat.zero_add, hB.cell j]
    match j with
    | 0 => simpa using hu
    | j + 1 => simp at hu
  · intro v2 w2 h1 h2 _
    obtain ⟨vo, vc, rfl, _⟩ := own_slice h1
    have hg := h2.ofAlloc
    have hlt : ∀ g, vM.ownBlock = some g → g ≠ kb := kb_ne h.kf.xm h.blk (by decide)
    have hk2 := (Grew.chg hg).blk h.blk (fun e => hlt kb e rfl)
    have hc : Chg (fun k => k = kb ∨ vM.ownBlock = some k) wr (w2.setCell ⟨kb, F.cm, none⟩ (.slice vo (ms.length + 1) vc)) := ((Grew.chg hg).mono (fun j _ e => Or.inr e)).trans (chg_setCell _) (fun j _ e => Or.inl e)
    have hR : ∀ {t s n : Nat} {u : Value} {xs : List Value}, wr.ownsRow L t s u n xs → t ≠ 86 → t ≠ 3 → (w2.setCell ⟨kb, F.cm, none⟩ (.slice vo (ms.length + 1) vc)).ownsRow L t s u n xs := fun hu h44 hts => ownsRow_same hu (fun g e => hc.block g (ownsRow_lt hu e).2 (fun hb => by
      rcases hb with hb | hb
      · exact kb_ne hu h.blk h44 g e hb
      · exact ty_ne hu h.kf.xm hts g e hb))
    have hnew : (w2.setCell ⟨kb, F.cm, none⟩ (.slice vo (ms.length + 1) vc)).ownsRow L 3 1 (.slice vo (ms.length + 1) vc) (ms ++ [(⟨far, nf, m⟩ : Lst)]).length (((ms ++ [(⟨far, nf, m⟩ : Lst)]).map Lst.m).map I) := by
      rw [List.length_append, List.map_append, List.map_append]
      refine ownsRow_same h1 (fun g e => Below.heap_setCell _ _ _ _ (fun e2 => ?_))
      have : kb < wr.heap.size := h.blk.lt
      replace e2 : g = kb := e2
      rcases hg.at' g e with q | q
      · exact hlt g q e2
      · omega
    have hbk := hk2.set F.cm (.slice vo (ms.length + 1) vc)
    rw [set_cm] at hbk
    refine hh vo vc w2 (hk2.frozen _) (by rw [hk2.cell, get_cm (by rw [h.cs]; exact hF.cm)]) ⟨hbk, ⟨hR h.kf.xi hF.s86 hF.s3, hnew, fun e he => hR (h.kf.en e he) hF.e86 hF.e3⟩, hR h.fr hF.e86 hF.e3, h.le, ?_, h.ni, ?_, h.nl, h.ne, h.mrk, h.cs, h.lk⟩
    · refine h.chg.trans hc (fun j hj hb => ?_)
      rcases hb with hb | hb
      · exact .inl hb
      · rcases h.nm j hb with q | q
        · exact .inr (.inr (.inl q))
        · omega
    · intro g e
      rcases hg.at' g e with q | q
      · exact h.nm g q
      · exact .inr (Nat.le_trans h.chg.size q)
theorem HS.wpF (hF : F.Ok) (h : HS F L kb C vI0 vM0 l es0 w vI vM far es ms nf m wr) (hlen : nf ≤ 1000100) {ops : Array Oper} {rest : List Oper} {o : Oper} {a : Act} {Q : Exit → Act → World → Prop} (hgd : o.guard = none) (s x : Operand)
    (ho : o.op = .call { callee := .builtin .append, args := #[s, x], argTypes := #[F.ts, F.ts] }) (hs : a.eval s = far) {g0 : Nat} (hx : a.eval x = .slice (some ⟨g0, 0, none⟩) 1 1) (hg0 : g0 = wr.heap.size)
    (hh : ∀ vo vc w2, Hid (HS F L kb C vI0 vM0 l es0 w vI vM (.slice vo (nf + 1) vc) es ms (nf + 1) m w2) → wpList Try.prog ops Q rest (a.put o.dst (.slice vo (nf + 1) vc)) w2) : wpList Try.prog ops Q (o :: rest) a (wr.alloc (.cells (F.mk' m).toArray F.te)) := by
  subst hg0
  have hB : Blk (wr.alloc (.cells (F.mk' m).toArray F.te)) wr.heap.size (F.mk' m).toArray F.te := heap_alloc_new wr _
  have hlw : L ≤ wr.heap.size := Nat.le_trans h.lk (Nat.le_of_lt h.blk.lt)
  have hb1 : (nf + 1) * F.by' ≤ (nf + 1) * 1000 := Nat.mul_le_mul_left _ hF.b1
  refine wpList_app F.ts F.te F.z F.se F.by' hF.ue hF.ie hF.hz hF.s1 hF.b0 hgd s x ho L nf far (full F nf m) hs (h.fr.alloc _) ⟨wr.heap.size, 0, none⟩ 1 1 (F.mk' m) hx (by rw [hF.ml, Nat.one_mul]) (fun j u hu => ?_) (hF.mo m) (by omega) (by rw [World.size_alloc]; omega) ?_
  · rw [addr_add, Nat.zero_add, hB.cell j, ← Array.getElem?_toList]
    exact hu
  · intro v2 w2 h1 h2 h3
    obtain ⟨vo, vc, rfl, _⟩ := own_slice h1
    have hg := h2.ofAlloc
    have hc := Grew.chg hg
    have hR : ∀ {t s n : Nat} {u : Value} {xs : List Value}, wr.ownsRow L t s u n xs → t ≠ F.te → w2.ownsRow L t s u n xs := fun hu hts => ownsRow_same hu (fun g e => hc.block g (ownsRow_lt hu e).2 (fun hb => ty_ne hu h.fr hts g e hb))
    have hE : ∀ e ∈ es, w2.ownsRow L F.te F.se e.v e.n (full F e.n e.m) := fun e he => by
      by_cases q : ∃ g, far.ownBlock = some g ∧ e.v.ownBlock = some g
      · obtain ⟨g, q1, q2⟩ := q
        exact h3 e.v e.n L _ (h.le e he g q1 q2) (q2.trans q1.symm) ((h.kf.en e he).alloc _)
      · exact ownsRow_same (h.kf.en e he) (fun g e2 => hc.block g (ownsRow_lt (h.kf.en e he) e2).2 (fun hb => q ⟨g, hb, e2⟩))
    refine hh vo vc w2 ⟨hc.blk h.blk (fun e => kb_ne h.fr h.blk hF.e86 kb e rfl), ⟨hR h.kf.xi (Ne.symm hF.es), hR h.kf.xm (Ne.symm hF.e3), hE⟩, by rw [full_succ]; exact h1, fun e he g q1 q2 => ?_, h.chg.trans hc (fun j hj hb => ?_), h.ni, h.nm, fun g e => ?_, h.ne, h.mrk, h.cs, h.lk⟩
    · rcases hg.at' g q1 with q | q
      · have := h.le e he g q q2; omega
      · have := (ownsRow_lt (h.kf.en e he) q2).2; omega
    · rcases h.nl j hb with q | q
      · exact .inr (.inr (.inr q))
      · omega
    · rcases hg.at' g e with q | q
      · exact h.nl g q
      · exact .inr (Nat.le_trans h.chg.size q)
end
end Go.Proofs.Ytcnokgphioigoaa.Sh
namespace Go.Proofs.Ytcnokgphioigoaa.Sh
open Go.RowKit Go.PlainAid
set_option linter.unusedVariables false
set_option linter.unusedSimpArgs false
theorem own_set1 {w : World} {L t s n g c i : Nat} {xs : List Value} (h : w.ownsRow L t s (.slice (some ⟨g, 0, none⟩) n c) n xs) (hi : i < xs.length) (u : Value) :
    (w.setCell ⟨g, i, none⟩ u).ownsRow L t s (.slice (some ⟨g, 0, none⟩) n c) n (xs.set i u) ∧ w.frozen? ⟨g, i, none⟩ = false ∧ w.cell? ⟨g, i, none⟩ = some (xs[i]'hi) := by
  rcases h.2 with ⟨h1, _⟩ | ⟨g2, c2, cur, h1, h2, h3, h4, h5, h6, h7⟩
  · cases h1
  · cases h1
    have hB : Blk w g cur t := h3
    refine ⟨⟨by rw [List.length_set]; exact h.1, Or.inr ⟨g, c, _, rfl, h2, hB.set i u, h4, h5, by simpa using h6, ?_⟩⟩, hB.frozen _, ?_⟩
    · rw [Array.toList_setIfInBounds, List.take_set, h7]
    · have := h.cells (g := g) rfl i _ (List.getElem?_eq_getElem hi)
      rwa [addr_add, Nat.zero_add] at this
theorem row_ptr {w : World} {L t s n c : Nat} {ao : Option Addr} {xs : List Value} (h : w.ownsRow L t s (.slice ao n c) n xs) (h0 : 0 < n) : ∃ g, ao = some ⟨g, 0, none⟩ := by
  rcases h.2 with ⟨h1, h2⟩ | ⟨g2, c, cur, h1, _⟩
  · omega
  · simp only [Value.slice.injEq] at h1
    exact ⟨g2, h1.1⟩
/-- The first k are written over. -/
def fillTo (F : Fam) (m : Int) (k : Nat) (xs : List Value) : List Value := full F k m ++ xs.drop (k * F.se)
theorem fillTo_zero (F : Fam) (m : Int) (xs : List Value) : fillTo F m 0 xs = xs := by simp [fillTo, full]
theorem fillTo_len {F : Fam} (h : F.Ok) {m : Int} {k n : Nat} {xs : List Value} (hx : xs.length = n * F.se) (hk : k ≤ n) : (fillTo F m k xs).length = n * F.se := by
  unfold fillTo
  rw [List.length_append, full_len h, List.length_drop, hx]
  have := Nat.mul_le_mul_right F.se hk
  omega
theorem fillTo_all {F : Fam} (h : F.Ok) {m : Int} {n : Nat} {xs : List Value} (hx : xs.length = n * F.se) : fillTo F m n xs = full F n m := by
  unfold fillTo
  rw [List.drop_of_length_le (by omega)]
  simp
theorem set_at (P t : List Value) (i j : Nat) (u : Value) (h : i = P.length + j) : (P ++ t).set i u = P ++ t.set j u := by
  subst h
  rw [List.set_append_right _ _ (by omega), Nat.add_sub_cancel_left]
theorem fillTo_setB {m : Int} {k n : Nat} {xs : List Value} (hx : xs.length = n) (hk : k < n) : (fillTo FB m k xs).set k (.int .u8 (m % 250 + 1)) = fillTo FB m (k + 1) xs := by
  unfold fillTo
  rw [set_at _ _ k 0 _ (by rw [full_len FB.ok]; show k = k * 1 + 0; omega), full_succ, List.append_assoc, show k * FB.se = k from Nat.mul_one k, show (k + 1) * FB.se = k + 1 from Nat.mul_one _, List.drop_eq_getElem_cons (by omega : k < xs.length)]
  rfl
set_option maxRecDepth 100000 in
set_option maxHeartbeats 1600000 in
theorem fillB_any {L n : Nat} {l : Value} {xs : List Value} {m : Int} (w : World) (hl : w.ownsRow L 5 1 l n xs) (hn : n ≤ 1000000) (hm0 : 0 ≤ m) (hm1 : m ≤ 1000000000000000) :
    Calls Try.prog 68 #[l, .int .i64 m] w fun r w' => r = .returned (.tuple #[]) ∧ w'.ownsRow L 5 1 l n (full FB n m) ∧ Chg (fun k => l.ownBlock = some k) w w' := by
  have hzl : xs.length = n * 1 := hl.1
  obtain ⟨lo, lc, hll, _⟩ := own_slice hl
  have hwm : IntKind.i64.wrap (m.tmod 250) = m % 250 := by rw [Int.tmod_eq_emod_of_nonneg hm0, IntKind.wrap_i64]; omega
  have hwa : IntKind.i64.wrap (m % 250 + 1) = m % 250 + 1 := by rw [IntKind.wrap_i64]; omega
  have hwu : IntKind.u8.wrap (m % 250 + 1) = m % 250 + 1 := by rw [IntKind.wrap_u8]; omega
  have HL : Hid _ := hl
  clear hl
  subst hll
  go_enter Try.func68, Try.ntmps68
  go_wp2
  go_loopw [4] (fun i wr => ∃ k : Nat, k ≤ n ∧ i = .int .i64 k ∧ Hid (wr.ownsRow L 5 1 (.slice lo n lc) n (fillTo FB m k xs)) ∧ Hid (Chg (fun k => (Value.slice lo n lc).ownBlock = some k) w wr)) (fun i _ => n - (intOf i).toNat)
  case atStart => exact ⟨0, Nat.zero_le _, rfl, by rw [fillTo_zero]; exact HL, Chg.refl _ _⟩
  case round =>
    clear HL
    obtain ⟨k, hk, rfl, HV, HB⟩ := hrel
    by_cases hlt : k < n
    · obtain ⟨g, rfl⟩ := row_ptr HV.out (by omega)
      have hfl : (fillTo FB m k xs).length = n * 1 := fillTo_len FB.ok hzl hk
      obtain ⟨hs, f0, c0⟩ := own_set1 (i := k) HV.out (by omega) (.int .u8 (m % 250 + 1))
      rw [fillTo_setB (by omega) hlt] at hs
      have HS : Hid _ := hs
      have HC : Hid (Chg (fun k => (Value.slice (some ⟨g, 0, none⟩) n lc).ownBlock = some k) w (wr.setCell ⟨g, k, none⟩ (.int .u8 (m % 250 + 1)))) := HB.out.trans (chg_setCell _) (fun j _ e => by rw [e]; rfl)
      generalize (fillTo FB m k xs)[k]'(by omega) = y0 at *
      clear hs HV HB hfl
      go_wp2
      go_roundw
      case rel => exact ⟨k + 1, by omega, by go_num, HS, HC⟩
      case measure => simp [intOf]; omega
    · obtain rfl : n = k := by omega
      go_wp2
      go_end0
      refine ⟨rfl, ?_, HB.out⟩
      have := HV.out
      rw [fillTo_all FB.ok hzl] at this
      exact this
structure ES where
  vI : Value
  vM : Value
  e : List Lst
def Marks (l : List Lst) : Prop := ∀ e ∈ l, 0 ≤ e.m ∧ e.m ≤ 1000000000000
theorem Marks.put {l l' : List Lst} {n : Nat} (h : Marks l) (hn : n ≤ 1000000000000) (hl : ∀ e ∈ l', e ∈ l ∨ e.m = (n : Int)) : Marks l' := fun e he => by
  rcases hl e he with q | q
  · exact h e q
  · omega
/-- A shelf whose lists are written over at once. -/
structure KE (L kb : Nat) (s : ES) (w : World) : Prop where
  blk : Blk w kb #[.bool false, s.vI, .slice none 0 0, s.vM] 86
  b : KF FB L s.vI s.vM s.e s.e w
  mb : Marks s.e
  lk : L ≤ kb
def KB (kb : Nat) (s : ES) (k : Nat) : Prop := k = kb ∨ KFB s.vI s.vM s.e k
theorem KE.lt {L kb : Nat} {s : ES} {w : World} (h : KE L kb s w) {k : Nat} (hk : KB kb s k) : L ≤ k ∧ k < w.heap.size := by
  rcases hk with rfl | e
  · exact ⟨h.lk, h.blk.lt⟩
  · exact h.b.lt e
theorem KE.frame {L kb : Nat} {s : ES} {w w2 : World} {B : Nat → Prop} (h : KE L kb s w) (hc : Chg B w w2) (hB : ∀ k, KB kb s k → ¬ B k) : KE L kb s w2 :=
  ⟨hc.blk h.blk (hB kb (.inl rfl)), h.b.frame hc (fun k hk => hB k (.inr hk)), h.mb, h.lk⟩
/-- What is held, its blocks. -/
theorem HS.bl {F : Fam} {L kb : Nat} {C : Array Value} {vI0 vM0 l : Value} {es0 : List Lst} {w : World} {vI vM far : Value} {es ms : List Lst} {nf : Nat} {m : Int} {wr : World} (h : HS F L kb C vI0 vM0 l es0 w vI vM far es ms nf m wr) {k : Nat} (hk : KFB vI vM es k) : KFB vI0 vM0 es0 k ∨ l.ownBlock = some k ∨ w.heap.size ≤ k := by
  rcases hk with q | q | ⟨x, hx, q⟩
  · rcases h.ni k q with q | q
    · exact .inl (.inl q)
    · exact .inr (.inr q)
  · rcases h.nm k q with q | q
    · exact .inl (.inr (.inl q))
    · exact .inr (.inr q)
  · rcases h.ne x hx k q with ⟨x0, h0, q⟩ | q | q
    · exact .inl (.inr (.inr ⟨x0, h0, q⟩))
    · exact .inr (.inl q)
    · exact .inr (.inr q)
theorem KE.heldB {L kb n : Nat} {s : ES} {l v1 v2 far : Value} {es' : List Lst} {w w2 : World} {xs : List Value} {m : Nat} (h : KE L kb s w) (hl : w.ownsRow L 5 1 l n xs) (hm : m ≤ 1000000000000)
    (hH : HS FB L kb #[.bool false, s.vI, .slice none 0 0, s.vM] s.vI s.vM l s.e w v1 v2 far es' es' (n + 40) m w2) : KE L kb ⟨v1, v2, es'⟩ w2 ∧ Chg (fun k => KB kb s k ∨ l.ownBlock = some k) w w2 ∧ ∀ k, KB kb ⟨v1, v2, es'⟩ k → KB kb s k ∨ l.ownBlock = some k ∨ w.heap.size ≤ k := by
  refine ⟨⟨hH.blk, hH.kf, h.mb.put hm hH.mrk, h.lk⟩, hH.chg.mono (fun k _ e => ?_), fun k hk => ?_⟩
  · rcases e with e | e | e | e
    · exact .inl (.inl e)
    · exact .inl (.inr (.inl e))
    · exact .inl (.inr (.inr (.inl e)))
    · exact .inr e
  · rcases hk with q | q
    · exact .inl (.inl q)
    · rcases hH.bl q with q | q | q
      · exact .inl (.inr q)
      · exact .inr (.inl q)
      · exact .inr (.inr q)
end Go.Proofs.Ytcnokgphioigoaa.Sh
namespace Go.Proofs.Ytcnokgphioigoaa.Sh
open Go.RowKit Go.PlainAid
set_option linter.unusedVariables false
set_option linter.unusedSimpArgs false
theorem app_one {F : Fam} (hF : F.Ok) {w : World} {base : Nat} {v : Value} {xs : List Value} (x : Value) (hx : x.oneCell' = true) (hown : w.ownsRow base F.ts 1 v xs.length xs) (hb : base ≤ w.heap.size) (hl : xs.length ≤ 1000000000000) :
    ∃ v' w', (∀ ty, (Builtin.append_ #[F.tt, F.tt] ty #[v, .slice (some ⟨w.heap.size, 0, none⟩) 1 1]).run Try.prog (w.alloc (.cells #[x] F.ts)) = .ok v' w') ∧ w'.ownsRow base F.ts 1 v' (xs.length + 1) (xs ++ [x]) ∧ Grew w w' v v' := by
  obtain ⟨v5, w5, hr5, ho5, hg5, hin5⟩ := app_any (w := w.alloc (.cells #[x] F.ts)) F.tt F.ts (.slice none 0 0) 1 24 hF.ut hF.it rfl (by decide) (by decide) (hown.alloc _) ⟨w.heap.size, 0, none⟩ 1 1 [x] rfl (fun j uu hu => by
    have hB : Blk (w.alloc (.cells #[x] F.ts)) w.heap.size #[x] F.ts := heap_alloc_new w _
    rw [addr_add, Nat.zero_add, hB.cell j]
    simpa using hu) (fun uu hu => by rw [List.mem_singleton.1 hu]; exact hx) (by omega) (by rw [World.size_alloc]; omega) F.ts
  exact ⟨v5, w5, fun ty => hr5, ho5, hg5.ofAlloc⟩
/-- An answer that is left as it is. -/
structure LE where
  l : Value
  was : Value
  n : Nat
  zs : List Value
/-- The lists of one kind, left as they are, and what they were. -/
structure LM (F : Fam) (G : Nat → List Value → Prop) (L : Nat) (vI vW : Value) (es : List LE) (w : World) : Prop where
  xi : w.ownsRow L F.ts 1 vI es.length (es.map LE.l)
  xw : w.ownsRow L F.ts 1 vW es.length (es.map LE.was)
  el : ∀ e ∈ es, w.ownsRow L F.te F.se e.l e.n e.zs
  ew : ∀ e ∈ es, w.ownsRow L F.te F.se e.was e.n e.zs
  ln : ∀ e ∈ es, e.n ≤ 1000000
  gd : ∀ e ∈ es, G e.n e.zs
  iw : ∀ g, vI.ownBlock = some g → vW.ownBlock ≠ some g
  dj : es.Pairwise fun e f => ∀ g, e.l.ownBlock = some g → f.l.ownBlock ≠ some g
def LMB (vI vW : Value) (es : List LE) (k : Nat) : Prop := vI.ownBlock = some k ∨ vW.ownBlock = some k ∨ ∃ e ∈ es, e.l.ownBlock = some k ∨ e.was.ownBlock = some k
section
variable {F H : Fam} {G : Nat → List Value → Prop} {L : Nat} {vI vW : Value} {es : List LE} {w w2 : World} {B : Nat → Prop}
theorem LM.lt (h : LM F G L vI vW es w) {k : Nat} (hk : LMB vI vW es k) : L ≤ k ∧ k < w.heap.size := by
  rcases hk with e | e | ⟨x, hx, e | e⟩
  · exact ownsRow_lt h.xi e
  · exact ownsRow_lt h.xw e
  · exact ownsRow_lt (h.el x hx) e
  · exact ownsRow_lt (h.ew x hx) e
theorem LM.frame (h : LM F G L vI vW es w) (hc : Chg B w w2) (hB : ∀ k, LMB vI vW es k → ¬ B k) : LM F G L vI vW es w2 := by
  have hs := fun k (hk : LMB vI vW es k) => hc.block k (h.lt hk).2 (hB k hk)
  exact ⟨ownsRow_same h.xi (fun g e => hs g (.inl e)), ownsRow_same h.xw (fun g e => hs g (.inr (.inl e))), fun x hx => ownsRow_same (h.el x hx) (fun g e => hs g (.inr (.inr ⟨x, hx, .inl e⟩))), fun x hx => ownsRow_same (h.ew x hx) (fun g e => hs g (.inr (.inr ⟨x, hx, .inr e⟩))), h.ln, h.gd, h.iw, h.dj⟩
theorem LM.other {kb n1 n2 : Nat} {v0 x0 : Value} {C : Array Value} {xs1 xs2 : List Value} (hF : F.Ok) (h1 : F.ts ≠ H.ts) (h2 : F.te ≠ H.ts) (h : LM F G L vI vW es w) (hb : Blk w kb C 86) (hi : w.ownsRow L H.ts 1 v0 n1 xs1) (hw : w.ownsRow L H.ts 1 x0 n2 xs2)
    (hc : Chg (fun k => k = kb ∨ v0.ownBlock = some k ∨ x0.ownBlock = some k) w w2) : LM F G L vI vW es w2 := by
  refine h.frame hc (fun k hk hB => ?_)
  have hS : ∀ {u : Value} {n : Nat} {xs : List Value}, w.ownsRow L F.ts 1 u n xs → u.ownBlock = some k → False := fun hu e => by
    rcases hB with q | q | q
    · exact kb_ne hu hb hF.s86 k e q
    · exact ty_ne hu hi h1 k e q
    · exact ty_ne hu hw h1 k e q
  have hE : ∀ {u : Value} {n : Nat} {xs : List Value}, w.ownsRow L F.te F.se u n xs → u.ownBlock = some k → False := fun hu e => by
    rcases hB with q | q | q
    · exact kb_ne hu hb hF.e86 k e q
    · exact ty_ne hu hi h2 k e q
    · exact ty_ne hu hw h2 k e q
  rcases hk with e | e | ⟨x, hx, e | e⟩
  · exact hS h.xi e
  · exact hS h.xw e
  · exact hE (h.el x hx) e
  · exact hE (h.ew x hx) e
end
/-- One more answer is left as it is: all that happens in memory. -/
theorem late_put {F : Fam} {G : Nat → List Value → Prop} {L kb cw ne n : Nat} {io wo lo : Option Addr} {ic wc lc : Nat} {C0 : Array Value} {es : List LE} {zs : List Value} (w : World) (hF : F.Ok) (hcw : F.ci ≠ cw) (hne : ne = es.length)
    (hB : Blk w kb ((C0.setIfInBounds F.ci (.slice io ne ic)).setIfInBounds cw (.slice wo ne wc)) 86) (hK : LM F G L (.slice io ne ic) (.slice wo ne wc) es w) (hl : w.ownsRow L F.te F.se (.slice lo n lc) n zs) (hg : G n zs) (hone : ∀ u ∈ zs, u.oneCell' = true)
    (hap : ∀ e ∈ es, ∀ g, (Value.slice lo n lc).ownBlock = some g → e.l.ownBlock ≠ some g) (hn : n ≤ 1000000) (hel : ne ≤ 1000000000000) (hlk : L ≤ kb) :
    ∃ io1 ic1 w1, (∀ ty, (Builtin.append_ #[F.tt, F.tt] ty #[.slice io ne ic, .slice (some ⟨w.heap.size, 0, none⟩) 1 1]).run Try.prog (w.alloc (.cells #[.slice lo n lc] F.ts)) = .ok (.slice io1 (ne + 1) ic1) w1) ∧ Blk w1 kb ((C0.setIfInBounds F.ci (.slice io ne ic)).setIfInBounds cw (.slice wo ne wc)) 86 ∧
      ∃ Y, Y = w1.setCell ⟨kb, F.ci, none⟩ (.slice io1 (ne + 1) ic1) ∧ Blk Y kb ((C0.setIfInBounds F.ci (.slice io1 (ne + 1) ic1)).setIfInBounds cw (.slice wo ne wc)) 86 ∧
      ∃ co cc w2, (∀ ty, (Builtin.append_ #[F.ts, F.ts] ty #[.slice none 0 0, .slice lo n lc]).run Try.prog ({ Y with drawn := Y.drawn + 1 } : World) = .ok (.slice co n cc) w2) ∧ Blk w2 kb ((C0.setIfInBounds F.ci (.slice io1 (ne + 1) ic1)).setIfInBounds cw (.slice wo ne wc)) 86 ∧
      Blk (w2.alloc (.cells #[.slice co n cc] F.ts)) kb ((C0.setIfInBounds F.ci (.slice io1 (ne + 1) ic1)).setIfInBounds cw (.slice wo ne wc)) 86 ∧
      ∃ wo4 wc4 w4, (∀ ty, (Builtin.append_ #[F.tt, F.tt] ty #[.slice wo ne wc, .slice (some ⟨w2.heap.size, 0, none⟩) 1 1]).run Try.prog (w2.alloc (.cells #[.slice co n cc] F.ts)) = .ok (.slice wo4 (ne + 1) wc4) w4) ∧ Blk w4 kb ((C0.setIfInBounds F.ci (.slice io1 (ne + 1) ic1)).setIfInBounds cw (.slice wo ne wc)) 86 ∧
      ∃ W, W = w4.setCell ⟨kb, cw, none⟩ (.slice wo4 (ne + 1) wc4) ∧ Blk W kb ((C0.setIfInBounds F.ci (.slice io1 (ne + 1) ic1)).setIfInBounds cw (.slice wo4 (ne + 1) wc4)) 86 ∧ LM F G L (.slice io1 (ne + 1) ic1) (.slice wo4 (ne + 1) wc4) (es ++ [⟨.slice lo n lc, .slice co n cc, n, zs⟩]) W ∧
        Chg (fun k => k = kb ∨ (Value.slice io ne ic).ownBlock = some k ∨ (Value.slice wo ne wc).ownBlock = some k) w W ∧ ∀ k, LMB (.slice io1 (ne + 1) ic1) (.slice wo4 (ne + 1) wc4) (es ++ [⟨.slice lo n lc, .slice co n cc, n, zs⟩]) k → LMB (.slice io ne ic) (.slice wo ne wc) es k ∨ (Value.slice lo n lc).ownBlock = some k ∨ w.heap.size ≤ k := by
  subst hne
  have hLw : L ≤ w.heap.size := Nat.le_trans hlk (Nat.le_of_lt hB.lt)
  have xi := hK.xi
  rw [show es.length = (es.map LE.l).length from by simp] at xi
  obtain ⟨v1, w1, hr1, ho1, hg1⟩ := app_one hF (.slice lo n lc) rfl xi hLw (by simpa using hel)
  rw [List.length_map] at ho1 hr1 hg1
  obtain ⟨io1, ic1, rfl, _⟩ := own_slice ho1
  have hkI : ∀ g, (Value.slice io es.length ic).ownBlock = some g → g ≠ kb := kb_ne hK.xi hB hF.s86
  have hB1 := (Grew.chg hg1).blk hB (fun e => hkI kb e rfl)
  refine ⟨io1, ic1, w1, hr1, hB1, _, rfl, ?_⟩
  generalize hY : w1.setCell ⟨kb, F.ci, none⟩ (.slice io1 (es.length + 1) ic1) = Y
  have hBY : Blk Y kb ((C0.setIfInBounds F.ci (.slice io1 (es.length + 1) ic1)).setIfInBounds cw (.slice wo es.length wc)) 86 := by
    have := hB1.set F.ci (.slice io1 (es.length + 1) ic1)
    rw [set_ci hcw, hY] at this
    exact this
  have hcY : Chg (fun k => k = kb ∨ (Value.slice io es.length ic).ownBlock = some k) w Y := by rw [← hY]; exact ((Grew.chg hg1).mono (fun j _ e => Or.inr e)).trans (chg_setCell _) (fun j _ e => Or.inl e)
  have hkb1 : ∀ g, (Value.slice io1 (es.length + 1) ic1).ownBlock = some g → g ≠ kb := fun g e => by
    rcases hg1.at' g e with q | q
    · exact hkI g q
    · have := hB.lt; omega
  have hoY : Y.ownsRow L F.ts 1 (.slice io1 (es.length + 1) ic1) (es.length + 1) (es.map LE.l ++ [.slice lo n lc]) := by rw [← hY]; exact ownsRow_same ho1 (fun g e => (chg_setCell (w := w1) (g := kb) (k := F.ci) _).block g (ownsRow_lt ho1 e).2 (hkb1 g e))
  have hsame : ∀ {t s n : Nat} {u : Value} {xs : List Value}, w.ownsRow L t s u n xs → t ≠ 86 → (∀ g, u.ownBlock = some g → (Value.slice io es.length ic).ownBlock ≠ some g) → Y.ownsRow L t s u n xs := fun hu h44 hts => ownsRow_same hu (fun g e => hcY.block g (ownsRow_lt hu e).2 (fun hb => by
    rcases hb with hb | hb
    · exact kb_ne hu hB h44 g e hb
    · exact hts g e hb))
  have hwY := hsame hK.xw hF.s86 (fun g e1 e2 => hK.iw g e2 e1)
  have hlY := hsame hl hF.e86 (ty_ne hl hK.xi hF.es)
  have hiw1 : ∀ g, (Value.slice io1 (es.length + 1) ic1).ownBlock = some g → (Value.slice wo es.length wc).ownBlock ≠ some g := fun g e1 e2 => by
    rcases hg1.at' g e1 with q | q
    · exact hK.iw g q e2
    · have := (ownsRow_lt hK.xw e2).2; omega
  have hnilY : World.ownsRow ({ Y with drawn := Y.drawn + 1 } : World) Y.heap.size F.te F.se (.slice none 0 0) 0 [] := World.ownsRow_nil _ _ _ _
  have hb1 : (0 + n) * F.by' ≤ n * 1000 := by rw [Nat.zero_add]; exact Nat.mul_le_mul_left _ hF.b1
  obtain ⟨vc, w2, hr2, hoc0, hgc⟩ := app_rows (w := ({ Y with drawn := Y.drawn + 1 } : World)) F.ts F.te F.z F.se F.by' hF.ue hF.ie hF.hz hF.s1 hF.b0 hnilY (ao := lo) (m := n) (cap := lc) (ys := zs) hl.1 (fun e => by
    subst e
    rcases hlY.2 with ⟨h1, h2⟩ | ⟨g2, c, cur, h1, _⟩
    · simp only [Value.slice.injEq] at h1
      exact ⟨h1.2.1, h1.2.2⟩
    · cases h1) (fun ad had i x hx => by
    subst had
    rcases hlY.2 with ⟨h1, h2⟩ | ⟨g2, c, cur, h1, _⟩
    · cases h1
    · simp only [Value.slice.injEq, Option.some.injEq] at h1
      obtain ⟨rfl, _, rfl⟩ := h1
      exact hlY.cells (g := g2) rfl i x hx) hone (by omega) (Nat.le_refl _)
  rw [Nat.zero_add, List.nil_append] at hoc0
  obtain ⟨co, cc, rfl, _⟩ := own_slice hoc0
  have hb2 : Below Y.heap.size Y w2 := (Below.drew (Below.refl Y.heap.size Y)).trans (hgc.below (fun q hq => by cases hq) (Nat.le_refl _))
  have hLY : L ≤ Y.heap.size := Nat.le_trans hLw hcY.size
  have hoc : w2.ownsRow L F.te F.se (.slice co n cc) n zs := ownsRow_mono hoc0 hLY
  have hB2 : Blk w2 kb ((C0.setIfInBounds F.ci (.slice io1 (es.length + 1) ic1)).setIfInBounds cw (.slice wo es.length wc)) 86 := (hb2.block kb hBY.lt).trans hBY
  have hwY2 : w2.ownsRow L F.ts 1 (.slice wo es.length wc) es.length (es.map LE.was) := ownsRow_same hwY (fun g e => hb2.block g (ownsRow_lt hwY e).2)
  have hwY3 := hwY2
  rw [show es.length = (es.map LE.was).length from by simp] at hwY3
  obtain ⟨v4, w4, hr4, ho4, hg4⟩ := app_one hF (.slice co n cc) rfl hwY3 (Nat.le_trans hLY hb2.size) (by simpa using hel)
  rw [List.length_map] at ho4 hr4 hg4
  obtain ⟨wo4, wc4, rfl, _⟩ := own_slice ho4
  have hB4 := (Grew.chg hg4).blk hB2 (fun e => kb_ne hwY2 hB2 hF.s86 kb e rfl)
  refine ⟨hBY, co, cc, w2, hr2, hB2, ((Below.refl _ _).alloc (Nat.le_refl w2.heap.size) _).block kb hB2.lt |>.trans hB2, wo4, wc4, w4, hr4, hB4, _, rfl, ?_⟩
  have hBW : Blk (w4.setCell ⟨kb, cw, none⟩ (.slice wo4 (es.length + 1) wc4)) kb ((C0.setIfInBounds F.ci (.slice io1 (es.length + 1) ic1)).setIfInBounds cw (.slice wo4 (es.length + 1) wc4)) 86 := by
    have := hB4.set cw (.slice wo4 (es.length + 1) wc4)
    rw [set_cm] at this
    exact this
  have hkw : ∀ g, (Value.slice wo4 (es.length + 1) wc4).ownBlock = some g → g ≠ kb := fun g e e2 => by
    rcases hg4.at' g e with q | q
    · exact kb_ne hwY2 hB2 hF.s86 g q e2
    · have h1 := hB2.lt; omega
  have hsf : ∀ {t s n : Nat} {u : Value} {xs : List Value}, Y.ownsRow L t s u n xs → t ≠ 86 → (∀ g, u.ownBlock = some g → (Value.slice wo es.length wc).ownBlock ≠ some g) → (w4.setCell ⟨kb, cw, none⟩ (.slice wo4 (es.length + 1) wc4)).ownsRow L t s u n xs := fun hu h44 hts => by
    have h1 := ownsRow_same hu (fun g e => hb2.block g (ownsRow_lt hu e).2)
    have h2 := ownsRow_same h1 (fun g e => (Grew.chg hg4).block g (ownsRow_lt h1 e).2 (hts g e))
    exact ownsRow_same h2 (fun g e => (chg_setCell (w := w4) (g := kb) (k := cw) _).block g (ownsRow_lt h2 e).2 (fun e2 => kb_ne h2 hB4 h44 g e e2))
  have hsw : ∀ {n : Nat} {u : Value} {xs : List Value}, w.ownsRow L F.te F.se u n xs → (w4.setCell ⟨kb, cw, none⟩ (.slice wo4 (es.length + 1) wc4)).ownsRow L F.te F.se u n xs := fun hu => by
    have h1 := hsame hu hF.e86 (ty_ne hu hK.xi hF.es)
    exact hsf h1 hF.e86 (ty_ne h1 hwY hF.es)
  refine ⟨hBW, ⟨?xi, ?xw, fun e he => ?el, fun e he => ?ew, fun e he => ?ln, fun e he => ?gd, fun g e1 e2 => ?iw, ?dj⟩, ?chg, fun k hk => ?bl⟩
  case xi =>
    have := hsf hoY hF.s86 (fun g e1 e2 => hiw1 g e1 e2)
    simpa using this
  case xw =>
    have := ownsRow_same ho4 (fun g e => (chg_setCell (w := w4) (g := kb) (k := cw) (.slice wo4 (es.length + 1) wc4)).block g (ownsRow_lt ho4 e).2 (hkw g e))
    simpa using this
  case el =>
    rcases List.mem_append.1 he with q | q
    · exact hsw (hK.el e q)
    · rw [List.mem_singleton.1 q]
      exact hsw hl
  case ew =>
    rcases List.mem_append.1 he with q | q
    · exact hsw (hK.ew e q)
    · rw [List.mem_singleton.1 q]
      have h1 : w4.ownsRow L F.te F.se (.slice co n cc) n zs := ownsRow_same hoc (fun g e => (Grew.chg hg4).block g (ownsRow_lt hoc e).2 (fun e2 => (ty_ne hoc hwY2 hF.es) g e e2))
      exact ownsRow_same h1 (fun g e => (chg_setCell (w := w4) (g := kb) (k := cw) (.slice wo4 (es.length + 1) wc4)).block g (ownsRow_lt h1 e).2 (fun e2 => kb_ne h1 hB4 hF.e86 g e e2))
  case ln =>
    rcases List.mem_append.1 he with q | q
    · exact hK.ln e q
    · rw [List.mem_singleton.1 q]; exact hn
  case gd =>
    rcases List.mem_append.1 he with q | q
    · exact hK.gd e q
    · rw [List.mem_singleton.1 q]; exact hg
  case iw =>
    rcases hg4.at' g e2 with q | q
    · exact hiw1 g e1 q
    · have h1 := (ownsRow_lt hoY e1).2
      have h2 := hb2.size
      omega
  case dj =>
    refine List.pairwise_append.2 ⟨hK.dj, List.pairwise_singleton _ _, fun e he f hf g e1 e2 => ?_⟩
    rw [List.mem_singleton.1 hf] at e2
    exact hap e he g e2 e1
  case chg =>
    have a1 : Chg (fun k => k = kb ∨ (Value.slice io es.length ic).ownBlock = some k ∨ (Value.slice wo es.length wc).ownBlock = some k) w Y := hcY.mono (fun j _ e => by
      rcases e with e | e
      · exact .inl e
      · exact .inr (.inl e))
    exact ((a1.trans (Chg.ofBelow (fun _ => False) hb2) (fun _ _ e => e.elim)).trans (Grew.chg hg4) (fun j _ e => .inr (.inr e))).trans (chg_setCell (w := w4) (g := kb) (k := cw) _) (fun j _ e => .inl e)
  case bl =>
    have s1 := hcY.size
    have s2 := hb2.size
    rcases hk with q | q | ⟨x, hx, q⟩
    · rcases hg1.at' k q with q | q
      · exact .inl (.inl q)
      · exact .inr (.inr q)
    · rcases hg4.at' k q with q | q
      · exact .inl (.inr (.inl q))
      · exact .inr (.inr (by omega))
    · rcases List.mem_append.1 hx with hx | hx
      · exact .inl (.inr (.inr ⟨x, hx, q⟩))
      · rw [List.mem_singleton.1 hx] at q
        rcases q with q | q
        · exact .inr (.inl q)
        · have := (ownsRow_lt hoc0 q).1
          exact .inr (.inr (by omega))
structure LS where
  vI : Value
  vW : Value
  e : List LE
def goodB (n : Nat) (zs : List Value) : Prop := ∃ bs : List UInt8, bs.length = n ∧ zs = bs.map B
/-- A shelf whose lists are left as they are. -/
structure KL (L kb : Nat) (s : LS) (w : World) : Prop where
  blk : Blk w kb #[.bool true, s.vI, s.vW, .slice none 0 0] 86
  b : LM FB goodB L s.vI s.vW s.e w
  lk : L ≤ kb
def KLB (kb : Nat) (s : LS) (k : Nat) : Prop := k = kb ∨ LMB s.vI s.vW s.e k
theorem KL.lt {L kb : Nat} {s : LS} {w : World} (h : KL L kb s w) {k : Nat} (hk : KLB kb s k) : L ≤ k ∧ k < w.heap.size := by
  rcases hk with rfl | e
  · exact ⟨h.lk, h.blk.lt⟩
  · exact h.b.lt e
theorem KL.frame {L kb : Nat} {s : LS} {w w2 : World} {B : Nat → Prop} (h : KL L kb s w) (hc : Chg B w w2) (hB : ∀ k, KLB kb s k → ¬ B k) : KL L kb s w2 :=
  ⟨hc.blk h.blk (hB kb (.inl rfl)), h.b.frame hc (fun k hk => hB k (.inr hk)), h.lk⟩
end Go.Proofs.Ytcnokgphioigoaa.Sh
namespace Go.Proofs.Ytcnokgphioigoaa.Sh
open Go.RowKit Go.PlainAid
set_option linter.unusedVariables false
set_option linter.unusedSimpArgs false
theorem dj_at {es : List LE} (h : es.Pairwise fun e f => ∀ g, e.l.ownBlock = some g → f.l.ownBlock ≠ some g) {i j : Nat} {e f : LE} (he : es[i]? = some e) (hf : es[j]? = some f) (hne : i ≠ j) (g : Nat) (h1 : e.l.ownBlock = some g) : f.l.ownBlock ≠ some g := by
  have hi := (List.getElem?_eq_some_iff.1 he)
  have hj := (List.getElem?_eq_some_iff.1 hf)
  obtain ⟨hi1, rfl⟩ := hi
  obtain ⟨hj1, rfl⟩ := hj
  rcases Nat.lt_or_gt_of_ne hne with hlt | hlt
  · exact List.pairwise_iff_getElem.1 h i j hi1 hj1 hlt g h1
  · exact fun h2 => List.pairwise_iff_getElem.1 h j i hj1 hi1 hlt g h2 h1
/-- Of one kind the first i are written full. -/
structure FM (F : Fam) (L : Nat) (vI : Value) (es : List LE) (i : Nat) (wr : World) : Prop where
  xi : wr.ownsRow L F.ts 1 vI es.length (es.map LE.l)
  fu : ∀ (a : Nat) (e : LE), es[a]? = some e → a < i → wr.ownsRow L F.te F.se e.l e.n (full F e.n a)
  re : ∀ (a : Nat) (e : LE), es[a]? = some e → i ≤ a → wr.ownsRow L F.te F.se e.l e.n e.zs
theorem FM.step {F : Fam} (hF : F.Ok) {L : Nat} {vI : Value} {es : List LE} {i : Nat} {wr w2 : World} (h : FM F L vI es i wr) (hdj : es.Pairwise fun e f => ∀ g, e.l.ownBlock = some g → f.l.ownBlock ≠ some g) {e : LE} (he : es[i]? = some e) (hr : w2.ownsRow L F.te F.se e.l e.n (full F e.n i)) (hc : Chg (fun k => e.l.ownBlock = some k) wr w2) : FM F L vI es (i + 1) w2 := by
  have hre := h.re i e he (Nat.le_refl _)
  refine ⟨ownsRow_same h.xi (fun g e2 => hc.block g (ownsRow_lt h.xi e2).2 (fun e3 => ty_ne h.xi hre (Ne.symm hF.es) g e2 e3)), fun a f hf ha => ?_, fun a f hf ha => ?_⟩
  · by_cases hij : a = i
    · subst hij
      rw [he] at hf
      cases hf
      exact hr
    · have hq := h.fu a f hf (by omega)
      exact ownsRow_same hq (fun g e2 => hc.block g (ownsRow_lt hq e2).2 (fun e3 => dj_at hdj hf he hij g e2 e3))
  · have hq := h.re a f hf (by omega)
    exact ownsRow_same hq (fun g e2 => hc.block g (ownsRow_lt hq e2).2 (fun e3 => dj_at hdj hf he (by omega) g e2 e3))
theorem FM.frame {F : Fam} {L : Nat} {vI : Value} {es : List LE} {i : Nat} {wr w2 : World} {B : Nat → Prop} (h : FM F L vI es i wr) (hc : Chg B wr w2) (hB : ∀ {t s n : Nat} {u : Value} {xs : List Value}, (t = F.ts ∨ t = F.te) → wr.ownsRow L t s u n xs → ∀ g, u.ownBlock = some g → ¬ B g) : FM F L vI es i w2 := by
  have hs : ∀ {t s n : Nat} {u : Value} {xs : List Value}, (t = F.ts ∨ t = F.te) → wr.ownsRow L t s u n xs → w2.ownsRow L t s u n xs := fun ht hq => ownsRow_same hq (fun g e => hc.block g (ownsRow_lt hq e).2 (hB ht hq g e))
  exact ⟨hs (.inl rfl) h.xi, fun a f hf ha => hs (.inr rfl) (h.fu a f hf ha), fun a f hf ha => hs (.inr rfl) (h.re a f hf ha)⟩
def LO (s : LS) (k : Nat) : Prop := ∃ e ∈ s.e, e.l.ownBlock = some k
@[reducible] def ES0 : ES := ⟨.slice none 0 0, .slice none 0 0, []⟩
theorem KB0 {tb k : Nat} (h : KB tb ES0 k) : k = tb := by
  rcases h with q | (q | q | ⟨x, hx, _⟩)
  · exact q
  · cases q
  · cases q
  · cases hx
theorem KE.new {L kb : Nat} {w : World} (h : Blk w kb #[.bool false, .slice none 0 0, .slice none 0 0, .slice none 0 0] 86) (hL : L ≤ kb) : KE L kb ES0 w :=
  ⟨h, ⟨World.ownsRow_nil _ _ _ _, World.ownsRow_nil _ _ _ _, (fun e he => by cases he)⟩, (fun e he => by cases he), hL⟩
/-- The first i are written full. -/
structure LF (L kb : Nat) (s : LS) (w : World) (tb i : Nat) (wr : World) : Prop where
  blk : Blk wr kb #[.bool true, s.vI, s.vW, .slice none 0 0] 86
  b : FM FB L s.vI s.e i wr
  tk : KE L tb ES0 wr
  chg : Chg (LO s) w wr
  lt : ∀ k, LO s k → k < w.heap.size
  tb : w.heap.size ≤ tb
/-- Of one kind the first i are held. -/
structure HM (F : Fam) (L : Nat) (vI : Value) (es : List LE) (i : Nat) (wr : World) : Prop where
  xi : wr.ownsRow L F.ts 1 vI es.length (es.map LE.l)
  fu : ∀ (a : Nat) (e : LE), es[a]? = some e → i ≤ a → wr.ownsRow L F.te F.se e.l e.n (full F e.n a)
theorem HM.frame {F : Fam} {L : Nat} {vI : Value} {es : List LE} {i i2 : Nat} {wr w2 : World} {B : Nat → Prop} (h : HM F L vI es i wr) (hi : i ≤ i2) (hc : Chg B wr w2) (h1 : ∀ g, vI.ownBlock = some g → ¬ B g) (h2 : ∀ (a : Nat) (e : LE), es[a]? = some e → i2 ≤ a → ∀ g, e.l.ownBlock = some g → ¬ B g) : HM F L vI es i2 w2 :=
  ⟨ownsRow_same h.xi (fun g e => hc.block g (ownsRow_lt h.xi e).2 (h1 g e)), fun a f hf ha => by have hq := h.fu a f hf (by omega); exact ownsRow_same hq (fun g e => hc.block g (ownsRow_lt hq e).2 (h2 a f hf ha g e))⟩
/-- The first i are held. -/
structure LH (L kb : Nat) (s : LS) (w : World) (tb i : Nat) (t : ES) (wr : World) : Prop where
  blk : Blk wr kb #[.bool true, s.vI, s.vW, .slice none 0 0] 86
  b : HM FB L s.vI s.e i wr
  tk : KE L tb t wr
  cn1 : t.e.length ≤ 18 * i
  kb' : ∀ k, KB tb t k → w.heap.size ≤ k ∨ ∃ (a : Nat) (e : LE), s.e[a]? = some e ∧ a < i ∧ e.l.ownBlock = some k
  chg : Chg (LO s) w wr
  lt : ∀ k, LO s k → k < w.heap.size
/-- What the walk knows of the shelf ahead of it. -/
structure LK (L kb : Nat) (s : LS) (w : World) : Prop where
  de : s.e.Pairwise fun e f => ∀ g, e.l.ownBlock = some g → f.l.ownBlock ≠ some g
  kl : kb < w.heap.size
  vI : ∀ k, s.vI.ownBlock = some k → k < w.heap.size
  lo : ∀ k, LO s k → k ≠ kb ∧ s.vI.ownBlock ≠ some k
theorem KL.lk' {L kb : Nat} {s : LS} {w : World} (hK : KL L kb s w) : LK L kb s w :=
  ⟨hK.b.dj, hK.blk.lt, fun k hk => (ownsRow_lt hK.b.xi hk).2, fun k h => by
    obtain ⟨e, he, hk⟩ := h
    exact ⟨kb_ne (hK.b.el e he) hK.blk (by decide) k hk, ty_ne (hK.b.el e he) hK.b.xi (by decide) k hk⟩⟩
theorem LF.held {L kb : Nat} {s : LS} {w : World} {tb : Nat} {wr : World} (h : LF L kb s w tb s.e.length wr) : LH L kb s w tb 0 ES0 wr :=
  ⟨h.blk, ⟨h.b.xi, fun a e he _ => h.b.fu a e he (List.getElem?_eq_some_iff.1 he).1⟩, h.tk, Nat.le_refl _, fun k hk => .inl (by rw [KB0 hk]; exact h.tb), h.chg, h.lt⟩
theorem LF.stepB {L kb : Nat} {s : LS} {w : World} {tb i : Nat} {wr w2 : World} (h : LF L kb s w tb i wr) (hL : LK L kb s w) {e : LE} (he : s.e[i]? = some e) (hr : w2.ownsRow L 5 1 e.l e.n (full FB e.n i)) (hc : Chg (fun k => e.l.ownBlock = some k) wr w2) : LF L kb s w tb (i + 1) w2 := by
  have hre := h.b.re i e he (Nat.le_refl _)
  have hin : ∀ k, e.l.ownBlock = some k → LO s k := fun k e2 => ⟨e, List.mem_of_getElem? he, e2⟩
  refine ⟨hc.blk h.blk (fun e2 => kb_ne hre h.blk (by decide) kb e2 rfl), h.b.step FB.ok hL.de he hr hc, h.tk.frame hc (fun k hk e2 => by have h1 := h.lt k (hin k e2); have h2 := h.tb; rw [KB0 hk] at h1; omega), h.chg.trans hc (fun k _ e2 => hin k e2), h.lt, h.tb⟩
theorem LH.stepB {L kb : Nat} {s : LS} {w : World} {tb i : Nat} {t t' : ES} {wr w2 : World} (h : LH L kb s w tb i t wr) (hL : LK L kb s w) {e : LE} (he : s.e[i]? = some e) (hK2 : KE L tb t' w2) (hc : Chg (fun k => KB tb t k ∨ e.l.ownBlock = some k) wr w2) (hbl : ∀ k, KB tb t' k → KB tb t k ∨ e.l.ownBlock = some k ∨ wr.heap.size ≤ k) (hn1 : t'.e.length ≤ t.e.length + 18) : LH L kb s w tb (i + 1) t' w2 := by
  have hKB : ∀ k, (KB tb t k ∨ e.l.ownBlock = some k) → w.heap.size ≤ k ∨ ∃ (a : Nat) (e : LE), s.e[a]? = some e ∧ a < i + 1 ∧ e.l.ownBlock = some k := fun k q => by
    rcases q with q | q
    · rcases h.kb' k q with q | ⟨a, f, h1, h2, h3⟩
      · exact .inl q
      · exact .inr ⟨a, f, h1, by omega, h3⟩
    · exact .inr ⟨i, e, he, by omega, q⟩
  have hLO : ∀ k, (KB tb t k ∨ e.l.ownBlock = some k) → w.heap.size ≤ k ∨ LO s k := fun k hk => by
    rcases hKB k hk with q | ⟨a, f, h1, _, h3⟩
    · exact .inl q
    · exact .inr ⟨f, List.mem_of_getElem? h1, h3⟩
  have hvv : ∀ {v : Value}, (∀ k, v.ownBlock = some k → k < w.heap.size) → (∀ k, LO s k → v.ownBlock ≠ some k) → ∀ g, v.ownBlock = some g → ¬ (KB tb t g ∨ e.l.ownBlock = some g) := fun h1 h2 g e2 hb => by
    rcases hLO g hb with q | q
    · have := h1 g e2; omega
    · exact h2 g q e2
  refine ⟨hc.blk h.blk (fun hb => by rcases hLO kb hb with q | q; have := hL.kl; omega; exact (hL.lo kb q).1 rfl), h.b.frame (by omega) hc (hvv hL.vI (fun k q => (hL.lo k q).2)) (fun a f hf ha g e2 hb => ?_), hK2, by have := h.cn1; omega, fun k hk => ?_, h.chg.trans hc (fun k hk hb => by rcases hLO k hb with q | q; omega; exact q), h.lt⟩
  · have hlt := h.lt g ⟨f, List.mem_of_getElem? hf, e2⟩
    rcases hKB g hb with q | ⟨a', f', h1, h2, h3⟩
    · omega
    · exact dj_at hL.de h1 hf (by omega) g h3 e2
  · have hsz := h.chg.size
    rcases hbl k hk with q | q | q
    · exact hKB k (.inl q)
    · exact hKB k (.inr q)
    · exact .inl (by omega)
theorem LH.noB {L kb : Nat} {s : LS} {w : World} {tb i : Nat} {t : ES} {wr : World} (h : LH L kb s w tb i t wr) (hL : LK L kb s w) {e : LE} (he : s.e[i]? = some e) (g : Nat) (h1 : e.l.ownBlock = some g) : ¬ KB tb t g := fun h2 => by
  rcases h.kb' g h2 with q | ⟨a, f, h3, h4, h5⟩
  · have := h.lt g ⟨_, List.mem_of_getElem? he, h1⟩; omega
  · exact dj_at hL.de h3 he (by omega) g h5 h1
end Go.Proofs.Ytcnokgphioigoaa.Sh
namespace Go.Proofs.Ytcnokgphioigoaa.Sh
open Go.RowKit Go.PlainAid
set_option linter.unusedVariables false
set_option linter.unusedSimpArgs false
theorem row_cell {w : World} {L t s n c g i : Nat} {xs : List Value} {x : Value} (h : w.ownsRow L t s (.slice (some ⟨g, 0, none⟩) n c) n xs) (hx : xs[i]? = some x) : w.cell? ⟨g, i, none⟩ = some x := by
  have := h.cells (g := g) rfl i x hx
  rwa [addr_add, Nat.zero_add] at this
theorem own_maxLen {w : World} {L t s n : Nat} {v : Value} {xs : List Value} (h : w.ownsRow L t s v n xs) : n ≤ maxLen := by
  rcases h.2 with ⟨_, h2⟩ | ⟨g, c, cur, _, _, _, h4, h5, _⟩
  · omega
  · omega
set_option maxRecDepth 100000 in
set_option maxHeartbeats 3200000 in
/-- All is as it was left. -/
theorem whole_early {L kb : Nat} {S : ES} (w : World) (hK : KE L kb S w) :
    Calls Try.prog 46 #[.pointer (some ⟨kb, 0, none⟩)] w fun r w' => r = .returned (.bool true) ∧ ∃ q, w' = w.drewN q := by
  obtain ⟨vI, vM, e1⟩ := S
  have c0 : w.cell? ⟨kb, 0, none⟩ = some (.bool false) := hK.blk.cell 0
  have hm1 : Marks e1 := hK.mb
  obtain ⟨io, ci, hii, _⟩ := own_slice hK.b.xi
  obtain ⟨mo, cm, hmm, _⟩ := own_slice hK.b.xm
  have hel := own_maxLen hK.b.xi
  obtain ⟨ne, hne⟩ : ∃ ne, ne = e1.length := ⟨_, rfl⟩
  have HNE : Hid (ne = e1.length) := hne
  have HK : Hid _ := hK
  have HM : Hid _ := And.intro hm1 trivial
  simp only at hii hmm hel
  rw [← hne] at hii hmm hel
  unfold maxLen at hel
  subst hii hmm
  have c1 : w.cell? ⟨kb, 1, none⟩ = some (.slice io ne ci) := hK.blk.cell 1
  clear hK hne hm1
  go_enter Try.func46, Try.ntmps46
  go_wp2_with fail
  go_loopw [3, 4] (fun s3 _ wr => ∃ i q : Nat, i ≤ ne ∧ s3 = .int .i64 (i : Int) ∧ wr = w.drewN q) (fun s3 _ _ => ne - (intOf s3).toNat)
  case atStart => exact ⟨0, 0, Nat.zero_le _, rfl, rfl⟩
  case round =>
    obtain ⟨i, q, hie, rfl, rfl⟩ := hrel
    have c1' : (w.drewN q).cell? ⟨kb, 1, none⟩ = some (.slice io ne ci) := c1
    by_cases hi : i < ne
    · obtain ⟨e, he⟩ : ∃ e, e1[i]? = some e := ⟨e1[i]'(by rw [← HNE.out]; exact hi), List.getElem?_eq_getElem _⟩
      have hem := List.mem_of_getElem? he
      have hrow := HK.out.b.en e hem
      obtain ⟨hmk1, hmk2⟩ := HM.out.1 e hem
      obtain ⟨ev, nv, em⟩ := e
      simp only at hrow hmk1 hmk2
      have hnv := own_maxLen hrow
      unfold maxLen at hnv
      obtain ⟨vo, cv, hvv, _⟩ := own_slice hrow
      subst hvv
      have xi := HK.out.b.xi
      simp only at xi
      rw [← HNE.out] at xi
      have xm := HK.out.b.xm
      simp only at xm
      rw [← HNE.out] at xm
      obtain ⟨gi, rfl⟩ := row_ptr xi (by omega)
      obtain ⟨gm, rfl⟩ := row_ptr xm (by omega)
      have d2 : w.cell? ⟨gi, i, none⟩ = some (.slice vo nv cv) := row_cell xi (by rw [List.getElem?_map, he]; rfl)
      have d5 : w.cell? ⟨gm, i, none⟩ = some (.int .i64 em) := row_cell xm (by rw [List.getElem?_map, List.getElem?_map, he]; rfl)
      have d4 : w.cell? ⟨kb, 3, none⟩ = some (.slice (some ⟨gm, 0, none⟩) ne cm) := HK.out.blk.cell 3
      have HROW : Hid (w.ownsRow L 5 1 (.slice vo nv cv) nv (full FB nv em)) := hrow
      clear xi xm he hem hrow
      have e2' : (w.drewN q).cell? ⟨gi, i, none⟩ = some (.slice vo nv cv) := d2
      obtain ⟨z, hz⟩ : ∃ z, z = em % 250 + 1 := ⟨_, rfl⟩
      have hwm : IntKind.i64.wrap (em.tmod 250) = em % 250 := by rw [Int.tmod_eq_emod_of_nonneg hmk1, IntKind.wrap_i64]; omega
      have hwa : IntKind.i64.wrap (em % 250 + 1) = z := by rw [IntKind.wrap_i64]; omega
      have hwu : IntKind.u8.wrap z = z := by rw [IntKind.wrap_u8]; omega
      have HZ : Hid _ := hz
      clear hz
      go_wp2_with fail
      go_loopw [4] (fun s4 wq => ∃ j q : Nat, j ≤ nv ∧ s4 = .int .i64 (j : Int) ∧ wq = w.drewN q) (fun s4 _ => nv - (intOf s4).toNat)
      case atStart => exact ⟨0, q, Nat.zero_le _, rfl, rfl⟩
      case round =>
        clear c1' e2'
        obtain ⟨j, q, hjn, rfl, rfl⟩ := hrel
        have f1 : (w.drewN q).cell? ⟨kb, 1, none⟩ = some (.slice (some ⟨gi, 0, none⟩) ne ci) := c1
        have f2 : (w.drewN q).cell? ⟨gi, i, none⟩ = some (.slice vo nv cv) := d2
        by_cases hj : j < nv
        · obtain ⟨gv, rfl⟩ := row_ptr HROW.out (by omega)
          have a3 : w.cell? ⟨gv, j, none⟩ = some (.int .u8 z) := by rw [HZ.out]; exact row_cell HROW.out (by have := full_at FB.ok (m := em) (j := 0) hj rfl; rwa [show j * FB.se + 0 = j from Nat.mul_one j] at this)
          have f3 : (w.drewN q).cell? ⟨gv, j, none⟩ = some (.int .u8 z) := a3
          have f4 : (w.drewN q).cell? ⟨kb, 3, none⟩ = some (.slice (some ⟨gm, 0, none⟩) ne cm) := d4
          have f5 : (w.drewN q).cell? ⟨gm, i, none⟩ = some (.int .i64 em) := d5
          clear HROW
          go_wp2_with fail
          go_quiet (fail)
          go_wp2_with fail
          go_roundw
          case rel => exact ⟨j + 1, _, by omega, by go_num, rfl⟩
          case measure => simp [intOf]; omega
        · go_wp2_with fail
          go_roundw
          case rel => exact ⟨i + 1, _, by omega, by go_num, rfl⟩
          case measure => simp [intOf]; omega
    · go_wp2_with fail
      go_ret
      exact ⟨rfl, q, rfl⟩
end Go.Proofs.Ytcnokgphioigoaa.Sh
