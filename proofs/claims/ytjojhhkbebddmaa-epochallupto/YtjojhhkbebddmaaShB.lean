import Derived.Test.YtjojhhkbebddmaaE10
namespace Go.Proofs.Ytjojhhkbebddmaa
open Go.RowKit Go.PlainAid
set_option linter.unusedVariables false
set_option linter.unusedSimpArgs false
theorem chg_setCell {w : World} {g k : Nat} (u : Value) : Chg (fun j => j = g) w (w.setCell ⟨g, k, none⟩ u) :=
  ⟨rfl, rfl, rfl, by simp, fun j hj hn => Below.heap_setCell _ _ _ _ hn⟩
/-- One of the two kinds of lists that a shelf holds. -/
structure Fam where
  te : Nat
  se : Nat
  ts : Nat
  tt : Nat
  ci : Nat
  cm : Nat
  by' : Nat
  z : Value
  mk' : Int → List Value
structure Fam.Ok (F : Fam) : Prop where
  e76 : F.te ≠ 76
  e3 : F.te ≠ 3
  es : F.te ≠ F.ts
  s76 : F.ts ≠ 76
  s3 : F.ts ≠ 3
  cc : F.ci ≠ F.cm
  ci : F.ci < 7
  cm : F.cm < 7
  ml : ∀ m, (F.mk' m).length = F.se
  mo : ∀ m, ∀ u ∈ F.mk' m, u.oneCell' = true
  s1 : 1 ≤ F.se
  b0 : 0 < F.by'
  b1 : F.by' ≤ 1000
  ut : Try.prog.underlying F.tt = some (.slice F.ts)
  it : (Try.prog.info? F.ts).map (fun i => (i.zero, i.size, i.bytes)) = some (some (.slice none 0 0), 1, 24)
  ue : Try.prog.underlying F.ts = some (.slice F.te)
  ie : (Try.prog.info? F.te).map (fun i => (i.zero, i.size, i.bytes)) = some (some F.z, F.se, F.by')
  hz : F.z.cells.size = F.se
@[reducible] def FA : Fam := ⟨56, 6, 52, 73, 1, 3, 48, .agg #[.int .i64 0, .int .i64 0, .int .i64 0, .int .i64 0, .int .i64 0, .int .i64 0], fun m => [.int .i64 (-9), .int .i64 m, .int .i64 0, .int .i64 0, .int .i64 0, .int .i64 0]⟩
@[reducible] def FE : Fam := ⟨49, 2, 64, 74, 4, 6, 16, .agg #[.int .i64 0, .int .i64 0], fun m => [.int .i64 (-9), .int .i64 m]⟩
theorem FA.ok : FA.Ok := ⟨by decide, by decide, by decide, by decide, by decide, by decide, by decide, by decide, fun _ => rfl, fun m u hu => by
  simp only [List.mem_cons, List.not_mem_nil, or_false] at hu
  rcases hu with rfl | rfl | rfl | rfl | rfl | rfl <;> rfl, by decide, by decide, by decide, Try.underlying73, by kernel_rfl, Try.underlying52, by kernel_rfl, rfl⟩
theorem FE.ok : FE.Ok := ⟨by decide, by decide, by decide, by decide, by decide, by decide, by decide, by decide, fun _ => rfl, fun m u hu => by
  simp only [List.mem_cons, List.not_mem_nil, or_false] at hu
  rcases hu with rfl | rfl <;> rfl, by decide, by decide, by decide, Try.underlying74, by kernel_rfl, Try.underlying64, by kernel_rfl, rfl⟩
def full (F : Fam) (n : Nat) (m : Int) : List Value := (List.replicate n (F.mk' m)).flatten
theorem full_succ (F : Fam) (n : Nat) (m : Int) : full F (n + 1) m = full F n m ++ F.mk' m := by unfold full; rw [List.replicate_succ', List.flatten_append]; simp
theorem full_len {F : Fam} (h : F.Ok) (n : Nat) (m : Int) : (full F n m).length = n * F.se := by
  induction n with
  | zero => simp [full]
  | succ n ih => rw [full_succ, List.length_append, ih, h.ml, Nat.add_mul, Nat.one_mul]
theorem full_at {F : Fam} (h : F.Ok) {n k j : Nat} {m : Int} {u : Value} (hk : k < n) (hu : (F.mk' m)[j]? = some u) : (full F n m)[k * F.se + j]? = some u := by
  have hj : j < F.se := by have := (List.getElem?_eq_some_iff.1 hu).1; rwa [h.ml] at this
  induction n with
  | zero => omega
  | succ n ih =>
    rw [full_succ]
    by_cases e : k = n
    · subst e
      rw [List.getElem?_append_right (by rw [full_len h]; omega), full_len h, Nat.add_sub_cancel_left]
      exact hu
    · have hlt : k * F.se + j < n * F.se := by
        have : (k + 1) * F.se ≤ n * F.se := Nat.mul_le_mul_right _ (by omega)
        rw [Nat.add_mul, Nat.one_mul] at this
        omega
      rw [List.getElem?_append_left (by rw [full_len h]; exact hlt)]
      exact ih (by omega)
structure Lst where
  v : Value
  n : Nat
  m : Int
theorem ty_ne {w : World} {L1 L2 t1 t2 s1 s2 n1 n2 : Nat} {u v : Value} {xs ys : List Value} (h1 : w.ownsRow L1 t1 s1 u n1 xs) (h2 : w.ownsRow L2 t2 s2 v n2 ys) (ht : t1 ≠ t2) (g : Nat) (e1 : u.ownBlock = some g) : v.ownBlock ≠ some g := fun e2 => by
  obtain ⟨c1, q1⟩ := ownsRow_type h1 e1
  obtain ⟨c2, q2⟩ := ownsRow_type h2 e2
  exact Blk.ne_t q1 q2 ht rfl
theorem kb_ne {w : World} {L t s n kb : Nat} {v : Value} {xs : List Value} {C : Array Value} (h1 : w.ownsRow L t s v n xs) (h2 : Blk w kb C 76) (ht : t ≠ 76) (g : Nat) (e1 : v.ownBlock = some g) : g ≠ kb := by
  obtain ⟨c1, q1⟩ := ownsRow_type h1 e1
  exact Blk.ne_t q1 h2 ht
/-- The lists of one kind, all written full, and their marks. -/
structure KF (F : Fam) (L : Nat) (vI vM : Value) (es ms : List Lst) (w : World) : Prop where
  xi : w.ownsRow L F.ts 1 vI es.length (es.map Lst.v)
  xm : w.ownsRow L 3 1 vM ms.length ((ms.map Lst.m).map I)
  en : ∀ e ∈ es, w.ownsRow L F.te F.se e.v e.n (full F e.n e.m)
/-- Their blocks. -/
def KFB (vI vM : Value) (es : List Lst) (k : Nat) : Prop := vI.ownBlock = some k ∨ vM.ownBlock = some k ∨ ∃ e ∈ es, e.v.ownBlock = some k
theorem KF.lt {F : Fam} {L : Nat} {vI vM : Value} {es ms : List Lst} {w : World} (h : KF F L vI vM es ms w) {k : Nat} (hk : KFB vI vM es k) : L ≤ k ∧ k < w.heap.size := by
  rcases hk with e | e | ⟨x, hx, e⟩
  · exact ownsRow_lt h.xi e
  · exact ownsRow_lt h.xm e
  · exact ownsRow_lt (h.en x hx) e
theorem KF.frame {F : Fam} {L : Nat} {vI vM : Value} {es ms : List Lst} {w w2 : World} {B : Nat → Prop} (h : KF F L vI vM es ms w) (hc : Chg B w w2) (hB : ∀ k, KFB vI vM es k → ¬ B k) : KF F L vI vM es ms w2 := by
  have hs := fun k (hk : KFB vI vM es k) => hc.block k (h.lt hk).2 (hB k hk)
  exact ⟨ownsRow_same h.xi (fun g e => hs g (.inl e)), ownsRow_same h.xm (fun g e => hs g (.inr (.inl e))), fun x hx => ownsRow_same (h.en x hx) (fun g e => hs g (.inr (.inr ⟨x, hx, e⟩)))⟩
/-- What the other kind does leaves these as they are. -/
theorem KF.other {F G : Fam} {L kb n1 n2 : Nat} {vI vM v0 m0 l : Value} {es ms : List Lst} {w w2 : World} {C : Array Value} {xs1 xs2 xs3 : List Value} (hG : G.Ok) (hF : F.Ok) (h1 : G.ts ≠ F.ts) (h2 : G.ts ≠ F.te) (h3 : G.te ≠ F.ts) (h4 : G.te ≠ F.te) (h : KF G L vI vM es ms w)
    (hb : Blk w kb C 76) (hi : w.ownsRow L F.ts 1 v0 n1 xs1) (hm : w.ownsRow L 3 1 m0 n2 xs2) {n3 : Nat} (hl : w.ownsRow L F.te F.se l n3 xs3) (hmm : ∀ g, vM.ownBlock = some g → m0.ownBlock ≠ some g)
    (hc : Chg (fun k => k = kb ∨ v0.ownBlock = some k ∨ m0.ownBlock = some k ∨ l.ownBlock = some k) w w2) : KF G L vI vM es ms w2 := by
  refine h.frame hc (fun k hk hB => ?_)
  rcases hk with e | e | ⟨x, hx, e⟩
  · rcases hB with q | q | q | q
    · exact kb_ne h.xi hb hG.s76 k e q
    · exact ty_ne h.xi hi h1 k e q
    · exact ty_ne h.xi hm hG.s3 k e q
    · exact ty_ne h.xi hl h2 k e q
  · rcases hB with q | q | q | q
    · exact kb_ne h.xm hb (by decide) k e q
    · exact ty_ne h.xm hi (Ne.symm hF.s3) k e q
    · exact hmm k e q
    · exact ty_ne h.xm hl (Ne.symm hF.e3) k e q
  · rcases hB with q | q | q | q
    · exact kb_ne (h.en x hx) hb hG.e76 k e q
    · exact ty_ne (h.en x hx) hi h3 k e q
    · exact ty_ne (h.en x hx) hm hG.e3 k e q
    · exact ty_ne (h.en x hx) hl h4 k e q
end Go.Proofs.Ytjojhhkbebddmaa
