import Derived.Test.YtaiknlnjahjeiaaTw
import Derived.Test.YtaiknlnjahjeiaaAg2
import Derived.Test.YtaiknlnjahjeiaaAllP
namespace Go.Proofs.Ytaiknlnjahjeiaa
open Go.RowKit Go.PlainAid Go.MapKept
set_option linter.unusedVariables false
set_option linter.unusedSimpArgs false
/-- A part of memory, with what is known of it. -/
structure Ent (L : Nat) where
  bl : Nat → Prop
  P : World → Prop
  fr : ∀ w w' : World, (∀ g, bl g → w'.heap[g]? = w.heap[g]?) → P w → P w'
  lo : ∀ w : World, P w → ∀ g, bl g → L ≤ g ∧ g < w.heap.size
def Ent.Dj {L : Nat} (e e' : Ent L) : Prop := ∀ k, e.bl k → ¬ e'.bl k
theorem Ent.Dj.symm {L : Nat} {e e' : Ent L} (h : e.Dj e') : e'.Dj e := fun k h1 h2 => h k h2 h1
def has {L : Nat} (es : List (Ent L)) (k : Nat) : Prop := ∃ e ∈ es, e.bl k
structure Held {L : Nat} (es : List (Ent L)) (w : World) : Prop where
  all : ∀ e ∈ es, e.P w
  dj : es.Pairwise Ent.Dj
section
variable {L : Nat} {es es' R : List (Ent L)} {e e' : Ent L} {w w' : World} {A : Nat → Prop}
theorem Held.typ (h : Held es w) {k : Nat} (hk : has es k) : L ≤ k ∧ k < w.heap.size := by
  obtain ⟨e, he, hv⟩ := hk
  exact e.lo w (h.all e he) k hv
theorem Held.keep (h : Held es w) (hk : ∀ k, has es k → w'.heap[k]? = w.heap[k]?) : Held es w' := ⟨fun e he => e.fr w w' (fun g hg => hk g ⟨e, he, hg⟩) (h.all e he), h.dj⟩
theorem Held.chg (h : Held es w) (hc : Chg A w w') (hA : ∀ k, has es k → ¬ A k) : Held es w' := h.keep fun k hk => hc.block k (h.typ hk).2 (hA k hk)
theorem Held.more (h : Held es w) (hb : Below w.heap.size w w') : Held es w' := h.keep fun k hk => hb.block k (h.typ hk).2
theorem Held.perm (h : Held es w) (hp : es.Perm es') : Held es' w := ⟨fun e he => h.all e (hp.mem_iff.2 he), (hp.pairwise_iff (fun h => h.symm)).1 h.dj⟩
theorem has_perm (hp : es.Perm es') {k : Nat} : has es k ↔ has es' k := ⟨fun ⟨e, he, hv⟩ => ⟨e, hp.mem_iff.1 he, hv⟩, fun ⟨e, he, hv⟩ => ⟨e, hp.mem_iff.2 he, hv⟩⟩
theorem Held.drop (h : Held (e :: R) w) : Held R w := ⟨fun x hx => h.all x (List.mem_cons_of_mem _ hx), (List.pairwise_cons.1 h.dj).2⟩
theorem Held.apart (h : Held (e :: R) w) {k : Nat} (hk : e.bl k) : ¬ has R k := fun ⟨x, hx, hv⟩ => (List.pairwise_cons.1 h.dj).1 x hx k hk hv
theorem Held.add (h : Held R w) (hP : e.P w) (hn : ∀ k, e.bl k → ¬ has R k) : Held (e :: R) w := by
  refine ⟨fun x hx => ?_, List.pairwise_cons.2 ⟨fun x hx k h1 h2 => hn k h1 ⟨x, hx, h2⟩, h.dj⟩⟩
  rcases List.mem_cons.1 hx with rfl | hx
  · exact hP
  · exact h.all x hx
theorem Held.swap (h : Held (e :: R) w) (hc : Chg (fun k => e.bl k) w w') (hP : e'.P w') (hu : ∀ k, e'.bl k → e.bl k ∨ w.heap.size ≤ k) : Held (e' :: R) w' := by
  have hR := h.drop
  refine (hR.chg hc (fun k hk e => h.apart e hk)).add hP fun k hk => ?_
  rcases hu k hk with h1 | h1
  · exact h.apart h1
  · intro h2
    have := (hR.typ h2).2
    omega
theorem has_cons {k : Nat} : has (e :: R) k ↔ e.bl k ∨ has R k := by
  constructor
  · rintro ⟨x, hx, hv⟩
    rcases List.mem_cons.1 hx with rfl | hx
    · exact Or.inl hv
    · exact Or.inr ⟨x, hx, hv⟩
  · rintro (h | ⟨x, hx, hv⟩)
    · exact ⟨e, List.mem_cons_self .., h⟩
    · exact ⟨x, List.mem_cons_of_mem _ hx, hv⟩
end
/-- What is held within a call that began at w0 with the blocks own0. -/
structure AS {L : Nat} (own0 : Nat → Prop) (w0 : World) (es : List (Ent L)) (w : World) : Prop where
  h : Held es w
  chg : Chg own0 w0 w
  new : ∀ k, has es k → own0 k ∨ w0.heap.size ≤ k
section
variable {L : Nat} {own0 : Nat → Prop} {w0 : World} {es es' R : List (Ent L)} {e e' : Ent L} {w w' : World} {A : Nat → Prop}
theorem AS.perm (h : AS own0 w0 es w) (hp : es.Perm es') : AS own0 w0 es' w := ⟨h.h.perm hp, h.chg, fun k hk => h.new k ((has_perm hp).2 hk)⟩
theorem AS.more (h : AS own0 w0 es w) (hb : Below w.heap.size w w') : AS own0 w0 es w' := ⟨h.h.more hb, h.chg.trans (Chg.ofBelow (fun _ => False) hb) (fun _ _ e => e.elim), h.new⟩
theorem AS.swap (h : AS own0 w0 (e :: R) w) (hc : Chg (fun k => e.bl k) w w') (hP : e'.P w') (hu : ∀ k, e'.bl k → e.bl k ∨ w.heap.size ≤ k) : AS own0 w0 (e' :: R) w' := by
  refine ⟨h.h.swap hc hP hu, h.chg.trans hc (fun j hj hb => ?_), fun k hk => ?_⟩
  · rcases h.new j (has_cons.2 (Or.inl hb)) with h1 | h1
    · exact h1
    · omega
  · rcases has_cons.1 hk with h1 | h1
    · rcases hu k h1 with h2 | h2
      · exact h.new k (has_cons.2 (Or.inl h2))
      · exact Or.inr (Nat.le_trans h.chg.size h2)
    · exact h.new k (has_cons.2 (Or.inr h1))
theorem AS.drop (h : AS own0 w0 (e :: R) w) : AS own0 w0 R w := ⟨h.h.drop, h.chg, fun k hk => h.new k (has_cons.2 (Or.inr hk))⟩
/-- Something new, that lies above where another world ended. -/
theorem AS.fresh (h : AS own0 w0 R w) (hb : Below w.heap.size w w') (hP : e.P w') (hn : ∀ k, e.bl k → w.heap.size ≤ k) : AS own0 w0 (e :: R) w' := by
  have h1 := h.more hb
  refine ⟨h1.h.add hP (fun k hk hh => ?_), h1.chg, fun k hk => ?_⟩
  · have := (h.h.typ hh).2
    have := hn k hk
    omega
  · rcases has_cons.1 hk with h2 | h2
    · exact Or.inr (Nat.le_trans h.chg.size (hn k h2))
    · exact h.new k h2
theorem AS.head (h : AS own0 w0 (e :: R) w) : e.P w := h.h.all e (List.mem_cons_self ..)
theorem AS.get (h : AS own0 w0 es w) (he : e ∈ es) : e.P w := h.h.all e he
end
def rowE (L : Nat) (T : TypeId) (sz : Nat) (v : Value) (n : Nat) (xs : List Value) : Ent L where
  bl := fun k => v.ownBlock = some k
  P := fun w => w.ownsRow L T sz v n xs
  fr := fun w w' h hP => ownsRow_same hP h
  lo := fun w hP g hg => ownsRow_lt hP hg
def boxE (L pb : Nat) (C : Array Value) (T : TypeId) : Ent L where
  bl := fun k => k = pb
  P := fun w => Blk w pb C T ∧ L ≤ pb
  fr := fun w w' h hP => ⟨(h pb rfl).trans hP.1, hP.2⟩
  lo := fun w hP g hg => by subst hg; exact ⟨hP.2, hP.1.lt⟩
section
variable {L : Nat} {es pre post R : List (Ent L)} {e e' : Ent L} {w w' : World}
theorem Held.at (h : Held (pre ++ e :: post) w) (hc : Chg (fun k => e.bl k) w w') (hP : e'.P w') (hu : ∀ k, e'.bl k → e.bl k ∨ w.heap.size ≤ k) : Held (pre ++ e' :: post) w' :=
  ((h.perm List.perm_middle).swap hc hP hu).perm List.perm_middle.symm
theorem Held.get (h : Held es w) (he : e ∈ es) : e.P w := h.all e he
theorem Held.fresh (h : Held R w) (hb : Below w.heap.size w w') (hP : e.P w') (hn : ∀ k, e.bl k → w.heap.size ≤ k) : Held (e :: R) w' :=
  (h.more hb).add hP (fun k hk hh => by
    have := (h.typ hh).2
    have := hn k hk
    omega)
theorem Held.below (h : Held (pre ++ e :: post) w) (hc : Chg (fun k => e.bl k) w w') (hL : L ≤ w.heap.size) : Below L w w' := hc.below hL (fun k hk => ((h.all e (List.mem_append_right _ (List.mem_cons_self ..))) |> fun hp => (e.lo w hp k hk).1))
end
def amE (L0 ab mb : Nat) (L : List (List UInt8 × Ct)) : Ent L0 where
  bl := ownB ab mb L
  P := fun w => AM ab mb L w ∧ ∀ k, ownB ab mb L k → L0 ≤ k
  fr := fun w w' h hP => ⟨⟨(h ab (Or.inl rfl)).trans hP.1.box, hP.1.map.same (h mb (Or.inr (Or.inl rfl))), fun p hp => by
    obtain ⟨a, b, x, c, d, e⟩ := hP.1.ct p hp
    exact ⟨a, b, x, c, d.same (h x (Or.inr (Or.inr ⟨p, hp, c⟩))), e⟩, hP.1.dj, hP.1.kd⟩, hP.2⟩
  lo := fun w hP g hg => ⟨hP.2 g hg, hP.1.own_lt hg⟩
def rmE (L0 rb : Nat) (v : Value) (M : List RC) : Ent L0 where
  bl := fun k => k = rb ∨ v.ownBlock = some k
  P := fun w => RMap L0 rb v M w ∧ L0 ≤ rb
  fr := fun w w' h hP => ⟨⟨(h rb (Or.inl rfl)).trans hP.1.box, ownsRow_same hP.1.row (fun g hg => h g (Or.inr hg))⟩, hP.2⟩
  lo := fun w hP g hg => by
    rcases hg with rfl | hg
    · exact ⟨hP.2, hP.1.box.lt⟩
    · exact ownsRow_lt hP.1.row hg
def roE (L0 : Nat) (S : List RC) : Ent L0 where
  bl := hasL S
  P := fun w => ∀ c ∈ S, c.Rd L0 w
  fr := fun w w' h hP c hc => ⟨ownsRow_same (hP c hc).h (fun g hg => h g ⟨c, hc, Or.inl hg⟩), ownsRow_same (hP c hc).u (fun g hg => h g ⟨c, hc, Or.inr hg⟩)⟩
  lo := fun w hP g hg => by
    obtain ⟨c, hc, hv | hv⟩ := hg
    · exact ownsRow_lt (hP c hc).h hv
    · exact ownsRow_lt (hP c hc).u hv
/-- An answer of Names that is kept, and the document's. -/
structure TD where
  l : Value
  w : Value
  ks : List (List UInt8)
def TD.row (t : TD) : List Value := [t.l, t.w, .slice none 0 0]
def flatT (ts : List TD) : List Value := ts.flatMap TD.row
def nmE (L0 : Nat) (v : Value) (ks : List (List UInt8)) : Ent L0 := rowE L0 9 1 v ks.length (flatS ks)
def TD.ents (L0 : Nat) (t : TD) : List (Ent L0) := [nmE L0 t.l t.ks, nmE L0 t.w t.ks]
/-- A pair. -/
structure PR where
  pb : Nat
  ab : Nat
  mb : Nat
  L : List (List UInt8 × Ct)
  rb : Nat
  v : Value
  M : List RC
  lv : Value
  ln : Nat
def PR.cs (p : PR) (kb : Nat) : Array Value := #[.pointer (some ⟨p.ab, 0, none⟩), .pointer (some ⟨p.rb, 0, none⟩), p.lv, .pointer (some ⟨kb, 0, none⟩)]
def pct : List UInt8 := [37]
def lsE (L0 : Nat) (p : PR) : Ent L0 := nmE L0 p.lv (List.replicate p.ln pct)
/-- What a pair, the book and the lists that are never written lie in; R: all else. -/
def stE (L0 kb : Nat) (p : PR) (S : List RC) (bv : Value) (ts : List TD) (R : List (Ent L0)) : List (Ent L0) :=
  boxE L0 p.pb (p.cs kb) 76 :: amE L0 p.ab p.mb p.L :: rmE L0 p.rb p.v p.M :: lsE L0 p :: roE L0 S :: boxE L0 kb #[bv] 87 :: rowE L0 100 3 bv ts.length (flatT ts) :: (ts.flatMap (TD.ents L0) ++ R)
/-- What holds of a pair. -/
structure PR.Ok (K : Nat) (p : PR) (S : List RC) : Prop where
  ag : AgM K p.L p.M
  sub : ∀ c ∈ p.M, c ∈ S
  ln : p.ln ≤ K
  ll : p.L.length ≤ K
theorem PR.Ok.mono {K K' : Nat} {p : PR} {S S' : List RC} (h : p.Ok K S) (hk : K ≤ K') (hs : ∀ c ∈ S, c ∈ S') : p.Ok K' S' := ⟨h.ag.mono hk, fun c hc => hs c (h.sub c hc), Nat.le_trans h.ln hk, Nat.le_trans h.ll hk⟩
section
variable {L0 kb K : Nat} {p : PR} {S : List RC} {bv : Value} {ts : List TD} {R : List (Ent L0)} {w w' : World}
theorem st_box (h : Held (stE L0 kb p S bv ts R) w) : Blk w p.pb (p.cs kb) 76 ∧ L0 ≤ p.pb := h.all (boxE L0 p.pb (p.cs kb) 76) (by simp [stE])
theorem st_am (h : Held (stE L0 kb p S bv ts R) w) : AM p.ab p.mb p.L w ∧ ∀ k, ownB p.ab p.mb p.L k → L0 ≤ k := h.all (amE L0 p.ab p.mb p.L) (by simp [stE])
theorem st_rm (h : Held (stE L0 kb p S bv ts R) w) : RMap L0 p.rb p.v p.M w ∧ L0 ≤ p.rb := h.all (rmE L0 p.rb p.v p.M) (by simp [stE])
theorem st_ls (h : Held (stE L0 kb p S bv ts R) w) : w.ownsRow L0 9 1 p.lv (List.replicate p.ln pct).length (flatS (List.replicate p.ln pct)) := h.all (lsE L0 p) (by simp [stE])
theorem st_ro (h : Held (stE L0 kb p S bv ts R) w) : ∀ c ∈ S, c.Rd L0 w := h.all (roE L0 S) (by simp [stE])
theorem st_kb (h : Held (stE L0 kb p S bv ts R) w) : Blk w kb #[bv] 87 ∧ L0 ≤ kb := h.all (boxE L0 kb #[bv] 87) (by simp [stE])
theorem st_kr (h : Held (stE L0 kb p S bv ts R) w) : w.ownsRow L0 100 3 bv ts.length (flatT ts) := h.all (rowE L0 100 3 bv ts.length (flatT ts)) (by simp [stE])
theorem st_R (h : Held (stE L0 kb p S bv ts R) w) {e : Ent L0} (he : e ∈ R) : e.P w := h.all e (by simp [stE, he])
theorem st_oks (h : Held (stE L0 kb p S bv ts R) w) (hk : p.Ok K S) : RAll L0 K p.M w := hk.ag.all (fun q hq => ((st_am h).1.ct q hq).2.1) (fun r hr => st_ro h r (hk.sub r hr))
theorem doL_len (Rr : Out) (n : List UInt8) (hb : Nat) (L : List (List UInt8 × Ct)) : (doL Rr n hb L).length ≤ L.length + 1 := by
  have key : ∀ (c : Ct) (L : List (List UInt8 × Ct)), (Gm.putM n c L).length ≤ L.length + 1 := fun c L => by
    induction L with
    | nil => simp [Gm.putM]
    | cons x t ih =>
      unfold Gm.putM
      split
      · simp
      · simp; omega
  unfold doL
  split
  · exact key _ L
  · omega
/-- Do of the program's map. -/
theorem st_do (h : Held (stE L0 kb p S bv ts R) w) (hL : L0 ≤ w.heap.size) (k A B q : Int) (n : List UInt8) (hn : n.length ≤ 140737488355328) :
    Calls Try.prog 12 #[.pointer (some ⟨p.ab, 0, none⟩), .agg #[.int .i64 k, .string ⟨n.toArray⟩, .int .i64 A, .int .i64 B], .int .i64 q] w fun e w' => ∃ hb', e = .returned (.tuple #[.int .i64 (mapO k A B q n p.L).1.1, .int .i64 (mapO k A B q n p.L).1.2]) ∧ Held (stE L0 kb { p with L := doL (mapO k A B q n p.L) n hb' p.L } S bv ts R) w' ∧ Below L0 w w' := by
  obtain ⟨hA, hlo⟩ := st_am h
  refine (do_any k A B q n w hA hn).mono ?_
  rintro e w' ⟨hb', rfl, hA', hh, hc⟩
  have hc2 : Chg (fun k => (amE L0 p.ab p.mb p.L).bl k) w w' := hc.mono (fun k _ e => Or.inr e)
  have h' : Held ([boxE L0 p.pb (p.cs kb) 76] ++ amE L0 p.ab p.mb p.L :: (rmE L0 p.rb p.v p.M :: lsE L0 p :: roE L0 S :: boxE L0 kb #[bv] 87 :: rowE L0 100 3 bv ts.length (flatT ts) :: (ts.flatMap (TD.ents L0) ++ R))) w := h
  refine ⟨hb', rfl, h'.at (e' := amE L0 p.ab p.mb (doL (mapO k A B q n p.L) n hb' p.L)) hc2 ⟨hA', fun k hk => ?_⟩ (fun k hk => own_doL hA.kd hh hk), h'.below hc2 hL⟩
  rcases own_doL hA.kd hh hk with h1 | h1
  · exact hlo k h1
  · omega
theorem st_al (h : Held (stE L0 kb p S bv ts R) w) (hL : L0 ≤ w.heap.size) (e0 e1 e2 k A B er va : Int) (n : List UInt8) (hn : n.length ≤ 140737488355328) :
    Calls Try.prog 20 #[.pointer (some ⟨p.ab, 0, none⟩), .agg #[.int .i64 e0, .int .i64 e1, .int .i64 e2, .int .i64 k, .string ⟨n.toArray⟩, .int .i64 A, .int .i64 B, .int .i64 er, .int .i64 va]] w fun e w' => ∃ hb', e = .returned (.bool (alB (mapO k A B va n p.L) er va)) ∧ Held (stE L0 kb { p with L := alL (mapO k A B va n p.L) er va n hb' p.L } S bv ts R) w' ∧ Below L0 w w' := by
  obtain ⟨hA, hlo⟩ := st_am h
  refine (allows_any e0 e1 e2 k A B er va n w hA hn).mono ?_
  rintro e w' ⟨hb', rfl, hA', hh, hc⟩
  have hc2 : Chg (fun k => (amE L0 p.ab p.mb p.L).bl k) w w' := hc.mono (fun k _ e => Or.inr e)
  have h' : Held ([boxE L0 p.pb (p.cs kb) 76] ++ amE L0 p.ab p.mb p.L :: (rmE L0 p.rb p.v p.M :: lsE L0 p :: roE L0 S :: boxE L0 kb #[bv] 87 :: rowE L0 100 3 bv ts.length (flatT ts) :: (ts.flatMap (TD.ents L0) ++ R))) w := h
  refine ⟨hb', rfl, h'.at (e' := amE L0 p.ab p.mb (alL (mapO k A B va n p.L) er va n hb' p.L)) hc2 ⟨hA', fun k hk => ?_⟩ (fun k hk => own_alL hA.kd hh hk), h'.below hc2 hL⟩
  rcases own_alL hA.kd hh hk with h1 | h1
  · exact hlo k h1
  · omega
/-- The document's map and the lists that are never written change together. -/
theorem st_rset {M' : List RC} {v' : Value} (h : Held (stE L0 kb p S bv ts R) w) (hL : L0 ≤ w.heap.size) (hM : RMap L0 p.rb v' M' w') (hv : ∀ k, v'.ownBlock = some k → p.v.ownBlock = some k ∨ w.heap.size ≤ k) (hc : Chg (fun k => k = p.rb ∨ p.v.ownBlock = some k) w w') (hrd : ∀ c ∈ M', c.Rd L0 w') (hsub : ∀ c ∈ p.M, c ∈ S) (hl : ∀ j, hasL M' j → hasL p.M j ∨ w.heap.size ≤ j) :
    Held (stE L0 kb { p with M := M', v := v' } (S ++ M') bv ts R) w' ∧ Below L0 w w' := by
  have h' : Held ([boxE L0 p.pb (p.cs kb) 76, amE L0 p.ab p.mb p.L] ++ rmE L0 p.rb p.v p.M :: (lsE L0 p :: roE L0 S :: boxE L0 kb #[bv] 87 :: rowE L0 100 3 bv ts.length (flatT ts) :: (ts.flatMap (TD.ents L0) ++ R))) w := h
  have hc2 : Chg (fun k => (rmE L0 p.rb p.v p.M).bl k) w w' := hc
  have hrb := (st_rm h).2
  have h1 := h'.at (e' := rmE L0 p.rb v' M') hc2 ⟨hM, hrb⟩ (fun k hk => hk.elim (fun e => Or.inl (Or.inl e)) (fun e => (hv k e).imp Or.inr id))
  have h2 : Held ([boxE L0 p.pb (p.cs kb) 76, amE L0 p.ab p.mb p.L, rmE L0 p.rb v' M', lsE L0 p] ++ roE L0 S :: (boxE L0 kb #[bv] 87 :: rowE L0 100 3 bv ts.length (flatT ts) :: (ts.flatMap (TD.ents L0) ++ R))) w' := h1
  refine ⟨?_, h'.below hc2 hL⟩
  have hp := h2.perm List.perm_middle
  have hro : Held (roE L0 (S ++ M') :: ([boxE L0 p.pb (p.cs kb) 76, amE L0 p.ab p.mb p.L, rmE L0 p.rb v' M', lsE L0 p] ++ (boxE L0 kb #[bv] 87 :: rowE L0 100 3 bv ts.length (flatT ts) :: (ts.flatMap (TD.ents L0) ++ R)))) w' := by
    refine hp.drop.add (fun c hc => ?_) (fun k hk hh => ?_)
    · rcases List.mem_append.1 hc with hc | hc
      · exact (hp.all _ (List.mem_cons_self ..)) c hc
      · exact hrd c hc
    · have hold : hasL S k ∨ w.heap.size ≤ k := by
        obtain ⟨c, hc, hv⟩ := hk
        rcases List.mem_append.1 hc with hc | hc
        · exact Or.inl ⟨c, hc, hv⟩
        · rcases hl k ⟨c, hc, hv⟩ with ⟨d, hd, hdv⟩ | h3
          · exact Or.inl ⟨d, hsub d hd, hdv⟩
          · exact Or.inr h3
      rcases hold with h3 | h3
      · exact hp.apart h3 hh
      · obtain ⟨e, he, hek⟩ := hh
        have hrmk : e = rmE L0 p.rb v' M' ∨ e ∈ [boxE L0 p.pb (p.cs kb) 76, amE L0 p.ab p.mb p.L, lsE L0 p] ++ (boxE L0 kb #[bv] 87 :: rowE L0 100 3 bv ts.length (flatT ts) :: (ts.flatMap (TD.ents L0) ++ R)) := by
          simp only [List.cons_append, List.nil_append, List.mem_cons, List.mem_append] at he ⊢
          rcases he with he | he | he | he | he | he | he
          · exact Or.inr (Or.inl he)
          · exact Or.inr (Or.inr (Or.inl he))
          · exact Or.inl he
          · exact Or.inr (Or.inr (Or.inr (Or.inl he)))
          · exact Or.inr (Or.inr (Or.inr (Or.inr (Or.inl he))))
          · exact Or.inr (Or.inr (Or.inr (Or.inr (Or.inr (Or.inl he)))))
          · exact Or.inr (Or.inr (Or.inr (Or.inr (Or.inr (Or.inr he)))))
        rcases hrmk with rfl | he2
        · obtain ⟨c, hc, hcv⟩ := hk
          rcases List.mem_append.1 hc with hc | hc
          · exact hp.apart ⟨c, hc, hcv⟩ ⟨_, he, hek⟩
          · have hcr := hrd c hc
            rcases hek with rfl | hek
            · rcases hcv with hcv | hcv
              · obtain ⟨cu, hcu⟩ := ownsRow_type hcr.h hcv
                exact Blk.ne_t (show Blk w' p.rb cu 125 from hcu) hM.box (by decide) rfl
              · obtain ⟨cu, hcu⟩ := ownsRow_type hcr.u hcv
                exact Blk.ne_t (show Blk w' p.rb cu 3 from hcu) hM.box (by decide) rfl
            · obtain ⟨cv, hcvv⟩ := ownsRow_type hM.row hek
              rcases hcv with hcv | hcv
              · obtain ⟨cu, hcu⟩ := ownsRow_type hcr.h hcv
                exact Blk.ne_t (show Blk w' k cu 125 from hcu) (show Blk w' k cv 94 from hcvv) (by decide) rfl
              · obtain ⟨cu, hcu⟩ := ownsRow_type hcr.u hcv
                exact Blk.ne_t (show Blk w' k cu 3 from hcu) (show Blk w' k cv 94 from hcvv) (by decide) rfl
        · have hes : e ∈ stE L0 kb p S bv ts R := by
            simp only [stE, List.cons_append, List.nil_append, List.mem_cons, List.mem_append] at he2 ⊢
            rcases he2 with he | he | he | he | he | he
            · exact Or.inl he
            · exact Or.inr (Or.inl he)
            · exact Or.inr (Or.inr (Or.inr (Or.inl he)))
            · exact Or.inr (Or.inr (Or.inr (Or.inr (Or.inr (Or.inl he)))))
            · exact Or.inr (Or.inr (Or.inr (Or.inr (Or.inr (Or.inr (Or.inl he))))))
            · exact Or.inr (Or.inr (Or.inr (Or.inr (Or.inr (Or.inr (Or.inr he))))))
          have := (h.typ ⟨e, hes, hek⟩).2
          omega
  exact hro.perm List.perm_middle.symm
end
end Go.Proofs.Ytaiknlnjahjeiaa
