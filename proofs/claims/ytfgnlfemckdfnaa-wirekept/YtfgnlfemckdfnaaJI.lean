import Derived.Test.YtfgnlfemckdfnaaJH
import Derived.Test.YtfgnlfemckdfnaaJB
namespace Go.Proofs.Ytfgnlfemckdfnaa.Sh
open Go.RowKit Go.PlainAid
set_option linter.unusedVariables false
set_option linter.unusedSimpArgs false
structure Chg (A : Nat → Prop) (w w' : World) : Prop where
  os : w'.os = w.os
  tape : w'.tape = w.tape
  output : w'.output = w.output
  size : w.heap.size ≤ w'.heap.size
  block : ∀ k, k < w.heap.size → ¬ A k → w'.heap[k]? = w.heap[k]?
theorem Chg.refl (A : Nat → Prop) (w : World) : Chg A w w := ⟨rfl, rfl, rfl, Nat.le_refl _, fun _ _ _ => rfl⟩
theorem Chg.trans {A B : Nat → Prop} {a b c : World} (h : Chg A a b) (k : Chg B b c) (hs : ∀ j, j < a.heap.size → B j → A j) : Chg A a c :=
  ⟨k.os.trans h.os, k.tape.trans h.tape, k.output.trans h.output, Nat.le_trans h.size k.size, fun j hj hn => (k.block j (Nat.lt_of_lt_of_le hj h.size) (fun hb => hn (hs j hj hb))).trans (h.block j hj hn)⟩
theorem Chg.mono {A B : Nat → Prop} {a b : World} (h : Chg A a b) (hs : ∀ j, j < a.heap.size → A j → B j) : Chg B a b :=
  ⟨h.os, h.tape, h.output, h.size, fun j hj hn => h.block j hj (fun ha => hn (hs j hj ha))⟩
theorem Chg.ofBelow (A : Nat → Prop) {w w' : World} (h : Below w.heap.size w w') : Chg A w w' := ⟨h.os, h.tape, h.output, h.size, fun k hk _ => h.block k hk⟩
theorem Chg.below {A : Nat → Prop} {w w' : World} (h : Chg A w w') {L : Nat} (hL : L ≤ w.heap.size) (h1 : ∀ k, A k → L ≤ k) : Below L w w' :=
  ⟨h.os, h.tape, h.output, h.size, fun k hk => h.block k (by omega) (fun ha => by have := h1 k ha; omega)⟩
theorem Chg.blk {A : Nat → Prop} {w w' : World} {hc : Nat} {C : Array Value} {T : TypeId} (h : Chg A w w') (hB : Blk w hc C T) (hn : ¬ A hc) : Blk w' hc C T := (h.block hc hB.lt hn).trans hB
theorem Chg.drewN {A : Nat → Prop} {w w' : World} (h : Chg A w w') (q : Nat) : Chg A w (w'.drewN q) := ⟨h.os, h.tape, h.output, h.size, h.block⟩
theorem blk_ne_t {w : World} {a b : Nat} {C D : Array Value} {T U : TypeId} (h1 : Blk w a C T) (h2 : Blk w b D U) (h : T ≠ U) : a ≠ b := fun e => by
  subst e
  have := h1.symm.trans h2
  simp only [Option.some.injEq, Obj.cells.injEq] at this
  exact h this.2.1
theorem grew_chg {w w' : World} {v v' : Value} (h : Grew w w' v v') : Chg (fun k => v.ownBlock = some k) w w' := ⟨h.g.os, h.g.tape, h.g.output, h.g.size, fun k hk hn => h.g.block k hk (fun e => hn e.symm)⟩
theorem ownsRow_same {w w' : World} {base e s n : Nat} {v : Value} {xs : List Value} (h : w.ownsRow base e s v n xs) (hb : ∀ g, v.ownBlock = some g → w'.heap[g]? = w.heap[g]?) : w'.ownsRow base e s v n xs := by
  refine ⟨h.1, ?_⟩
  rcases h.2 with h2 | ⟨g, c, cur, rfl, h3, h4, h5⟩
  · exact Or.inl h2
  · exact Or.inr ⟨g, c, cur, rfl, h3, (hb g rfl).trans h4, h5⟩
theorem ownsRow_type {w : World} {base e s n : Nat} {v : Value} {xs : List Value} (h : w.ownsRow base e s v n xs) {g : Nat} (hg : v.ownBlock = some g) : ∃ cur, w.heap[g]? = some (.cells cur e (0, 0)) := by
  rcases h.2 with ⟨rfl, _⟩ | ⟨g2, c, cur, rfl, h3, h4, h5⟩
  · cases hg
  · cases hg; exact ⟨cur, h4⟩
theorem ownsRow_mono {w : World} {base base' e s n : Nat} {v : Value} {xs : List Value} (h : w.ownsRow base e s v n xs) (hb : base' ≤ base) : w.ownsRow base' e s v n xs := by
  refine ⟨h.1, ?_⟩
  rcases h.2 with h2 | ⟨g, c, cur, rfl, h3, h5⟩
  · exact Or.inl h2
  · exact Or.inr ⟨g, c, cur, rfl, by omega, h5⟩
theorem ownsRow_lt {w : World} {base e s n : Nat} {v : Value} {xs : List Value} (h : w.ownsRow base e s v n xs) {g : Nat} (hg : v.ownBlock = some g) : base ≤ g ∧ g < w.heap.size := h.lt g hg
theorem own_slice {w : World} {base n e s : Nat} {v : Value} {xs : List Value} (h : w.ownsRow base e s v n xs) : ∃ ao cap, v = .slice ao n cap ∧ n ≤ cap := by
  rcases h.2 with ⟨rfl, rfl⟩ | ⟨g, cap, cur, rfl, _, _, hc, _⟩
  · exact ⟨none, 0, rfl, Nat.le_refl _⟩
  · exact ⟨_, cap, rfl, hc⟩
theorem app_any (t e : TypeId) (z : Value) (size bytes : Nat) (ht : Try.prog.underlying t = some (.slice e)) (hinfo : (Try.prog.info? e).map (fun i => (i.zero, i.size, i.bytes)) = some (some z, size, bytes)) (hzz : z.cells.size = size) (hs0 : 1 ≤ size) (hb0 : 0 < bytes)
    {w : World} {base k : Nat} {v : Value} {xs : List Value} (hown : w.ownsRow base e size v k xs) (ad : Addr) (m cap : Nat) (ys : List Value) (hys : ys.length = m * size) (hnews : ∀ j u, ys[j]? = some u → w.cell? (ad.add j) = some u) (hone : ∀ u ∈ ys, u.oneCell' = true) (hby2 : (k + m) * bytes ≤ 140737488355328) (hbase : base ≤ w.heap.size) (ty : TypeId) :
    ∃ v' w', (Builtin.append_ #[t, t] ty #[v, .slice (some ad) m cap]).run Try.prog w = .ok v' w' ∧ w'.ownsRow base e size v' (k + m) (xs ++ ys) ∧ Grew w w' v v' ∧
      ∀ (d : Value) (n base' : Nat) (zs : List Value), n ≤ k → d.ownBlock = v.ownBlock → w.ownsRow base' e size d n zs → w'.ownsRow base' e size d n zs := by
  obtain ⟨i0, hi, hz0, hz1, hz2⟩ := info_parts hinfo
  have hlen : k + m ≤ 140737488355328 := Nat.le_trans (Nat.le_mul_of_pos_right _ hb0) hby2
  obtain ⟨v', w', hr, h1, h2, _⟩ := run_append_own (P := Try.prog) w base t ty e i0 z size bytes ht hi hz0 hz1 hz2 hzz hs0 v k xs hown ad m cap ys hys hnews hone (by unfold maxLen; omega) hby2 hbase
  refine ⟨v', w', hr, h1, ⟨h2, ?_⟩, fun d n base' zs hn hd hod => ?_⟩
  · rcases hown.2 with ⟨rfl, rfl⟩ | ⟨g, c, cur, rfl, _, hg, hnc, hcm, hcs, htk⟩
    · have hx : xs = [] := List.eq_nil_of_length_eq_zero (by simpa using hown.1)
      obtain ⟨v1, w1, hr1, ho1, _⟩ := run_append_own (P := Try.prog) w w.heap.size t ty e i0 z size bytes ht hi hz0 hz1 hz2 hzz hs0 (.slice none 0 0) 0 [] (World.ownsRow_nil _ _ _ _) ad m cap ys hys hnews hone (by unfold maxLen; omega) hby2 (Nat.le_refl _)
      rw [hr] at hr1
      cases hr1
      exact fun j hj => Or.inr (ho1.lt j hj).1
    · by_cases hroom : k + m ≤ c
      · have hr1 := run_append_room (P := Try.prog) w t ty e i0 ht hi g k c cur hg ad m cap ys (by rw [hz1]; exact hys) hnews hone hroom (by rw [hz1, hcs, hys, ← Nat.add_mul]; exact Nat.mul_le_mul_right _ hroom)
        rw [hr] at hr1
        cases hr1
        exact fun j hj => Or.inl hj
      · have hr1 := run_append_grow (P := Try.prog) w t ty e i0 z ht hi hz0 ⟨g, 0, none⟩ k c xs (by rw [hz1]; exact hown.1) (hown.cells (g := g) rfl) ad m cap ys (by rw [hz1]; exact hys) hnews (by omega) (by omega) (growslice_fits (by omega) (by rw [hz2]; exact hby2))
        rw [hr] at hr1
        cases hr1
        intro j hj
        cases hj
        exact Or.inr (Nat.le_refl _)
  · rcases hown.2 with ⟨rfl, rfl⟩ | ⟨g, c, cur, rfl, _, hg, hnc, hcm, hcs, htk⟩
    · rcases hod.2 with ⟨rfl, rfl⟩ | ⟨g2, c2, cur2, rfl, _⟩
      · exact ⟨hod.1, Or.inl ⟨rfl, rfl⟩⟩
      · cases hd
    · rcases hod.2 with ⟨rfl, rfl⟩ | ⟨g2, c2, cur2, rfl, hb2, hg2, hnc2, hcm2, hcs2, htk2⟩
      · cases hd
      · cases hd
        rw [hg] at hg2
        cases hg2
        by_cases hroom : k + m ≤ c
        · have hfit : k * i0.size + ys.length ≤ cur.size := by rw [hz1, hcs, hys, ← Nat.add_mul]; exact Nat.mul_le_mul_right _ hroom
          have hr1 := run_append_room (P := Try.prog) w t ty e i0 ht hi g k c cur hg ad m cap ys (by rw [hz1]; exact hys) hnews hone hroom hfit
          rw [hr] at hr1
          cases hr1
          have hsz : (cur.toList.take (k * i0.size) ++ ys ++ cur.toList.drop (k * i0.size + ys.length)).toArray.size = cur.size := by
            simp only [List.size_toArray, List.length_append, List.length_take, List.length_drop, Array.length_toList]
            omega
          have hnk : n * size ≤ k * i0.size := by rw [hz1]; exact Nat.mul_le_mul_right _ hn
          refine ⟨hod.1, Or.inr ⟨g, c2, _, rfl, hb2, setRow_heap _ _ _ _ e _ hg, hnc2, hcm2, by rw [hsz]; exact hcs2, ?_⟩⟩
          rw [List.append_assoc]
          rw [List.take_append_of_le_length (by simp only [List.length_take, Array.length_toList]; omega), List.take_take, Nat.min_eq_left hnk, htk2]
        · have hr1 := run_append_grow (P := Try.prog) w t ty e i0 z ht hi hz0 ⟨g, 0, none⟩ k c xs (by rw [hz1]; exact hown.1) (hown.cells (g := g) rfl) ad m cap ys (by rw [hz1]; exact hys) hnews (by omega) (by omega) (growslice_fits (by omega) (by rw [hz2]; exact hby2))
          rw [hr] at hr1
          cases hr1
          refine ownsRow_same hod fun j hj => ?_
          cases hj
          have := (Array.getElem?_eq_some_iff.1 hg).1
          exact Below.heap_alloc _ _ _ (by simpa using this)
theorem wpList_app (t e : TypeId) (z : Value) (size bytes : Nat) (ht : Try.prog.underlying t = some (.slice e)) (hinfo : (Try.prog.info? e).map (fun i => (i.zero, i.size, i.bytes)) = some (some z, size, bytes)) (hzz : z.cells.size = size) (hs0 : 1 ≤ size) (hb0 : 0 < bytes)
    {w : World} {ops : Array Oper} {rest : List Oper} {o : Oper} {a : Act} {Q : Exit → Act → World → Prop} (hgd : o.guard = none) (s x : Operand)
    (ho : o.op = .call { callee := .builtin .append, args := #[s, x], argTypes := #[t, t] })
    (base k : Nat) (v : Value) (xs : List Value) (hs : a.eval s = v) (hown : w.ownsRow base e size v k xs)
    (ad : Addr) (m cap : Nat) (ys : List Value) (hx : a.eval x = .slice (some ad) m cap) (hys : ys.length = m * size) (hnews : ∀ j u, ys[j]? = some u → w.cell? (ad.add j) = some u) (hone : ∀ u ∈ ys, u.oneCell' = true) (hby2 : (k + m) * bytes ≤ 140737488355328) (hbase : base ≤ w.heap.size)
    (h : ∀ v' w', w'.ownsRow base e size v' (k + m) (xs ++ ys) → Grew w w' v v' → (∀ (d : Value) (n base' : Nat) (zs : List Value), n ≤ k → d.ownBlock = v.ownBlock → w.ownsRow base' e size d n zs → w'.ownsRow base' e size d n zs) → wpList Try.prog ops Q rest (a.put o.dst v') w') : wpList Try.prog ops Q (o :: rest) a w := by
  obtain ⟨v', w', hr, h1, h2, h3⟩ := app_any t e z size bytes ht hinfo hzz hs0 hb0 hown ad m cap ys hys hnews hone hby2 hbase o.type
  refine wpList_plain hgd fun K hK => ?_
  unfold Oper.wp execOp
  simp only [ho, resolve, invoke, builtin, Sem.run_bind, Sem.run_pure, Result.andThen_ok, List.map_toArray, List.map_cons, List.map_nil, hs, hx, hr]
  exact hK _ _ (h v' w' h1 h2 h3)
theorem chg_setCell {w : World} {g k : Nat} (u : Value) : Chg (fun j => j = g) w (w.setCell ⟨g, k, none⟩ u) :=
  ⟨rfl, rfl, rfl, by simp, fun j hj hn => Below.heap_setCell _ _ _ _ hn⟩
def I (z : Int) : Value := .int .i64 z
structure Fam where
  te : Nat
  se : Nat
  ts : Nat
  tt : Nat
  ci : Nat
  cm : Nat
  by' : Nat
  z : Value
  mk' : Int → List Value
structure Fam.Ok (F : Fam) : Prop where
  e71 : F.te ≠ 71
  e3 : F.te ≠ 3
  es : F.te ≠ F.ts
  s71 : F.ts ≠ 71
  s3 : F.ts ≠ 3
  cc : F.ci ≠ F.cm
  ci : F.ci < 7
  cm : F.cm < 7
  ml : ∀ m, (F.mk' m).length = F.se
  mo : ∀ m, ∀ u ∈ F.mk' m, u.oneCell' = true
  s1 : 1 ≤ F.se
  b0 : 0 < F.by'
  b1 : F.by' ≤ 1000
  ut : Try.prog.underlying F.tt = some (.slice F.ts)
  it : (Try.prog.info? F.ts).map (fun i => (i.zero, i.size, i.bytes)) = some (some (.slice none 0 0), 1, 24)
  ue : Try.prog.underlying F.ts = some (.slice F.te)
  ie : (Try.prog.info? F.te).map (fun i => (i.zero, i.size, i.bytes)) = some (some F.z, F.se, F.by')
  hz : F.z.cells.size = F.se
@[reducible] def FB : Fam := ⟨5, 1, 22, 67, 1, 3, 1, .int .u8 0, fun m => [.int .u8 (m % 250 + 1)]⟩
@[reducible] def FV : Fam := ⟨112, 7, 33, 69, 4, 6, 64, .agg #[.string ⟨#[]⟩, .int .i64 0, .int .i64 0, .int .i64 0, .int .i64 0, .int .i64 0, .int .i64 0], fun m => [.string ⟨#[109, 97, 114, 107]⟩, .int .i64 m, .int .i64 0, .int .i64 0, .int .i64 0, .int .i64 0, .int .i64 0]⟩
theorem FB.ok : FB.Ok := ⟨by decide, by decide, by decide, by decide, by decide, by decide, by decide, by decide, fun _ => rfl, fun m u hu => by rw [List.mem_singleton.1 hu]; rfl, by decide, by decide, by decide, Try.underlying67, by kernel_rfl, Try.underlying22, by kernel_rfl, rfl⟩
theorem FV.ok : FV.Ok := ⟨by decide, by decide, by decide, by decide, by decide, by decide, by decide, by decide, fun _ => rfl, fun m u hu => by
  simp only [List.mem_cons, List.not_mem_nil, or_false] at hu
  rcases hu with rfl | rfl | rfl | rfl | rfl | rfl | rfl <;> rfl, by decide, by decide, by decide, Try.underlying69, by kernel_rfl, Try.underlying33, by kernel_rfl, rfl⟩
theorem info3 : (Try.prog.info? 3).map (fun i => (i.zero, i.size, i.bytes)) = some (some (.int .i64 0), 1, 8) := by kernel_rfl
def full (F : Fam) (n : Nat) (m : Int) : List Value := (List.replicate n (F.mk' m)).flatten
theorem full_succ (F : Fam) (n : Nat) (m : Int) : full F (n + 1) m = full F n m ++ F.mk' m := by unfold full; rw [List.replicate_succ', List.flatten_append]; simp
theorem full_len {F : Fam} (h : F.Ok) (n : Nat) (m : Int) : (full F n m).length = n * F.se := by
  induction n with
  | zero => simp [full]
  | succ n ih => rw [full_succ, List.length_append, ih, h.ml, Nat.add_mul, Nat.one_mul]
theorem full_at {F : Fam} (h : F.Ok) {n k j : Nat} {m : Int} {u : Value} (hk : k < n) (hu : (F.mk' m)[j]? = some u) : (full F n m)[k * F.se + j]? = some u := by
  have hj : j < F.se := by have := (List.getElem?_eq_some_iff.1 hu).1; rwa [h.ml] at this
  induction n with
  | zero => omega
  | succ n ih =>
    rw [full_succ]
    by_cases e : k = n
    · subst e
      rw [List.getElem?_append_right (by rw [full_len h]; omega), full_len h, Nat.add_sub_cancel_left]
      exact hu
    · have hlt : k * F.se + j < n * F.se := by
        have : (k + 1) * F.se ≤ n * F.se := Nat.mul_le_mul_right _ (by omega)
        rw [Nat.add_mul, Nat.one_mul] at this
        omega
      rw [List.getElem?_append_left (by rw [full_len h]; exact hlt)]
      exact ih (by omega)
structure Ent where
  v : Value
  n : Nat
  m : Int
theorem ty_ne {w : World} {L1 L2 t1 t2 s1 s2 n1 n2 : Nat} {u v : Value} {xs ys : List Value} (h1 : w.ownsRow L1 t1 s1 u n1 xs) (h2 : w.ownsRow L2 t2 s2 v n2 ys) (ht : t1 ≠ t2) (g : Nat) (e1 : u.ownBlock = some g) : v.ownBlock ≠ some g := fun e2 => by
  obtain ⟨c1, q1⟩ := ownsRow_type h1 e1
  obtain ⟨c2, q2⟩ := ownsRow_type h2 e2
  exact blk_ne_t q1 q2 ht rfl
theorem kb_ne {w : World} {L t s n kb : Nat} {v : Value} {xs : List Value} {C : Array Value} (h1 : w.ownsRow L t s v n xs) (h2 : Blk w kb C 71) (ht : t ≠ 71) (g : Nat) (e1 : v.ownBlock = some g) : g ≠ kb := by
  obtain ⟨c1, q1⟩ := ownsRow_type h1 e1
  exact blk_ne_t q1 h2 ht
structure KF (F : Fam) (L : Nat) (vI vM : Value) (es ms : List Ent) (w : World) : Prop where
  xi : w.ownsRow L F.ts 1 vI es.length (es.map Ent.v)
  xm : w.ownsRow L 3 1 vM ms.length ((ms.map Ent.m).map I)
  en : ∀ e ∈ es, w.ownsRow L F.te F.se e.v e.n (full F e.n e.m)
def KFB (vI vM : Value) (es : List Ent) (k : Nat) : Prop := vI.ownBlock = some k ∨ vM.ownBlock = some k ∨ ∃ e ∈ es, e.v.ownBlock = some k
theorem KF.lt {F : Fam} {L : Nat} {vI vM : Value} {es ms : List Ent} {w : World} (h : KF F L vI vM es ms w) {k : Nat} (hk : KFB vI vM es k) : L ≤ k ∧ k < w.heap.size := by
  rcases hk with e | e | ⟨x, hx, e⟩
  · exact ownsRow_lt h.xi e
  · exact ownsRow_lt h.xm e
  · exact ownsRow_lt (h.en x hx) e
theorem KF.frame {F : Fam} {L : Nat} {vI vM : Value} {es ms : List Ent} {w w2 : World} {B : Nat → Prop} (h : KF F L vI vM es ms w) (hc : Chg B w w2) (hB : ∀ k, KFB vI vM es k → ¬ B k) : KF F L vI vM es ms w2 := by
  have hs := fun k (hk : KFB vI vM es k) => hc.block k (h.lt hk).2 (hB k hk)
  exact ⟨ownsRow_same h.xi (fun g e => hs g (.inl e)), ownsRow_same h.xm (fun g e => hs g (.inr (.inl e))), fun x hx => ownsRow_same (h.en x hx) (fun g e => hs g (.inr (.inr ⟨x, hx, e⟩)))⟩
theorem KF.other {F G : Fam} {L kb n1 n2 : Nat} {vI vM v0 m0 l : Value} {es ms : List Ent} {w w2 : World} {C : Array Value} {xs1 xs2 xs3 : List Value} (hG : G.Ok) (hF : F.Ok) (h1 : G.ts ≠ F.ts) (h2 : G.ts ≠ F.te) (h3 : G.te ≠ F.ts) (h4 : G.te ≠ F.te) (h : KF G L vI vM es ms w)
    (hb : Blk w kb C 71) (hi : w.ownsRow L F.ts 1 v0 n1 xs1) (hm : w.ownsRow L 3 1 m0 n2 xs2) {n3 : Nat} (hl : w.ownsRow L F.te F.se l n3 xs3) (hmm : ∀ g, vM.ownBlock = some g → m0.ownBlock ≠ some g)
    (hc : Chg (fun k => k = kb ∨ v0.ownBlock = some k ∨ m0.ownBlock = some k ∨ l.ownBlock = some k) w w2) : KF G L vI vM es ms w2 := by
  refine h.frame hc (fun k hk hB => ?_)
  rcases hk with e | e | ⟨x, hx, e⟩
  · rcases hB with q | q | q | q
    · exact kb_ne h.xi hb hG.s71 k e q
    · exact ty_ne h.xi hi h1 k e q
    · exact ty_ne h.xi hm hG.s3 k e q
    · exact ty_ne h.xi hl h2 k e q
  · rcases hB with q | q | q | q
    · exact kb_ne h.xm hb (by decide) k e q
    · exact ty_ne h.xm hi (Ne.symm hF.s3) k e q
    · exact hmm k e q
    · exact ty_ne h.xm hl (Ne.symm hF.e3) k e q
  · rcases hB with q | q | q | q
    · exact kb_ne (h.en x hx) hb hG.e71 k e q
    · exact ty_ne (h.en x hx) hi h3 k e q
    · exact ty_ne (h.en x hx) hm hG.e3 k e q
    · exact ty_ne (h.en x hx) hl h4 k e q
end Go.Proofs.Ytfgnlfemckdfnaa.Sh
namespace Go.Proofs.Ytfgnlfemckdfnaa.Sh
open Go.RowKit Go.PlainAid
set_option linter.unusedVariables false
set_option linter.unusedSimpArgs false
theorem set_ci {C : Array Value} {i j : Nat} {a b v : Value} (h : i ≠ j) : ((C.setIfInBounds i a).setIfInBounds j b).setIfInBounds i v = (C.setIfInBounds i v).setIfInBounds j b := by
  rw [Array.setIfInBounds_comm _ _ (Ne.symm h), Array.setIfInBounds_setIfInBounds]
theorem set_cm {C : Array Value} {i j : Nat} {a b v : Value} : ((C.setIfInBounds i a).setIfInBounds j b).setIfInBounds j v = (C.setIfInBounds i a).setIfInBounds j v := Array.setIfInBounds_setIfInBounds _
theorem get_ci {C : Array Value} {i j : Nat} {a b : Value} (h : i ≠ j) (hi : i < C.size) : ((C.setIfInBounds i a).setIfInBounds j b)[i]? = some a := by
  rw [Array.getElem?_setIfInBounds_ne (Ne.symm h), Array.getElem?_setIfInBounds_self_of_lt hi]
theorem get_cm {C : Array Value} {i j : Nat} {a b : Value} (hj : j < C.size) : ((C.setIfInBounds i a).setIfInBounds j b)[j]? = some b := Array.getElem?_setIfInBounds_self_of_lt (by simpa using hj)
structure HS (F : Fam) (L kb : Nat) (C : Array Value) (vI0 vM0 l : Value) (es0 : List Ent) (w : World) (vI vM far : Value) (es ms : List Ent) (nf : Nat) (m : Int) (wr : World) : Prop where
  blk : Blk wr kb ((C.setIfInBounds F.ci vI).setIfInBounds F.cm vM) 71
  kf : KF F L vI vM es ms wr
  fr : wr.ownsRow L F.te F.se far nf (full F nf m)
  le : ∀ e ∈ es, ∀ g, far.ownBlock = some g → e.v.ownBlock = some g → e.n ≤ nf
  chg : Chg (fun k => k = kb ∨ vI0.ownBlock = some k ∨ vM0.ownBlock = some k ∨ l.ownBlock = some k) w wr
  ni : ∀ g, vI.ownBlock = some g → vI0.ownBlock = some g ∨ w.heap.size ≤ g
  nm : ∀ g, vM.ownBlock = some g → vM0.ownBlock = some g ∨ w.heap.size ≤ g
  nl : ∀ g, far.ownBlock = some g → l.ownBlock = some g ∨ w.heap.size ≤ g
  ne : ∀ e ∈ es, ∀ g, e.v.ownBlock = some g → (∃ e0 ∈ es0, e0.v.ownBlock = some g) ∨ l.ownBlock = some g ∨ w.heap.size ≤ g
  mrk : ∀ e ∈ es, e ∈ es0 ∨ e.m = m
  cs : C.size = 7
  lk : L ≤ kb
section
variable {F : Fam} {L kb : Nat} {C : Array Value} {vI0 vM0 l : Value} {es0 : List Ent} {w : World} {vI vM far far' v' : Value} {es ms : List Ent} {nf : Nat} {m : Int} {wr w2 : World}
theorem HS.cI (hF : F.Ok) (h : HS F L kb C vI0 vM0 l es0 w vI vM far es ms nf m wr) : wr.cell? ⟨kb, F.ci, none⟩ = some vI := by rw [h.blk.cell, get_ci hF.cc (by rw [h.cs]; exact hF.ci)]
theorem HS.cM (hF : F.Ok) (h : HS F L kb C vI0 vM0 l es0 w vI vM far es ms nf m wr) : wr.cell? ⟨kb, F.cm, none⟩ = some vM := by rw [h.blk.cell, get_cm (by rw [h.cs]; exact hF.cm)]
theorem HS.wpI (hF : F.Ok) (h : HS F L kb C vI0 vM0 l es0 w vI vM far es ms nf m wr) (hlen : (es.length + 1) * 24 ≤ 140737488355328) {ops : Array Oper} {rest : List Oper} {o : Oper} {a : Act} {Q : Exit → Act → World → Prop} (hgd : o.guard = none) (s x : Operand)
    (ho : o.op = .call { callee := .builtin .append, args := #[s, x], argTypes := #[F.tt, F.tt] }) (hs : a.eval s = vI) {g0 : Nat} (hx : a.eval x = .slice (some ⟨g0, 0, none⟩) 1 1) (hg0 : g0 = wr.heap.size)
    (hh : ∀ vo vc w2, w2.frozen? ⟨kb, F.ci, none⟩ = false → w2.cell? ⟨kb, F.ci, none⟩ = some vI → Hid (HS F L kb C vI0 vM0 l es0 w (.slice vo (es.length + 1) vc) vM far (es ++ [⟨far, nf, m⟩]) ms nf m (w2.setCell ⟨kb, F.ci, none⟩ (.slice vo (es.length + 1) vc))) → wpList Try.prog ops Q rest (a.put o.dst (.slice vo (es.length + 1) vc)) w2) : wpList Try.prog ops Q (o :: rest) a (wr.alloc (.cells #[far] F.ts)) := by
  subst hg0
  have hB : Blk (wr.alloc (.cells #[far] F.ts)) wr.heap.size #[far] F.ts := heap_alloc_new wr _
  obtain ⟨fo, fc, hff, _⟩ := own_slice h.fr
  have hlw : L ≤ wr.heap.size := Nat.le_trans h.lk (Nat.le_of_lt h.blk.lt)
  refine wpList_app F.tt F.ts (.slice none 0 0) 1 24 hF.ut hF.it rfl (by decide) (by decide) hgd s x ho L es.length vI (es.map Ent.v) hs (h.kf.xi.alloc _) ⟨wr.heap.size, 0, none⟩ 1 1 [far] hx rfl (fun j u hu => ?_) (fun u hu => by rw [List.mem_singleton.1 hu, hff]; rfl) hlen (by rw [World.size_alloc]; omega) ?_
  · rw [addr_add, Nat.zero_add, hB.cell j]
    match j with
    | 0 => simpa using hu
    | j + 1 => simp at hu
  · intro v2 w2 h1 h2 _
    obtain ⟨vo, vc, rfl, _⟩ := own_slice h1
    have hg := h2.ofAlloc
    have hlt : ∀ g, vI.ownBlock = some g → g ≠ kb := kb_ne h.kf.xi h.blk hF.s71
    have hk2 := (grew_chg hg).blk h.blk (fun e => hlt kb e rfl)
    have hc : Chg (fun k => k = kb ∨ vI.ownBlock = some k) wr (w2.setCell ⟨kb, F.ci, none⟩ (.slice vo (es.length + 1) vc)) := ((grew_chg hg).mono (fun j _ e => Or.inr e)).trans (chg_setCell _) (fun j _ e => Or.inl e)
    have hR : ∀ {t s n : Nat} {u : Value} {xs : List Value}, wr.ownsRow L t s u n xs → t ≠ 71 → t ≠ F.ts → (w2.setCell ⟨kb, F.ci, none⟩ (.slice vo (es.length + 1) vc)).ownsRow L t s u n xs := fun hu h44 hts => ownsRow_same hu (fun g e => hc.block g (ownsRow_lt hu e).2 (fun hb => by
      rcases hb with hb | hb
      · exact kb_ne hu h.blk h44 g e hb
      · exact ty_ne hu h.kf.xi hts g e hb))
    have hnew : (w2.setCell ⟨kb, F.ci, none⟩ (.slice vo (es.length + 1) vc)).ownsRow L F.ts 1 (.slice vo (es.length + 1) vc) (es ++ [(⟨far, nf, m⟩ : Ent)]).length ((es ++ [(⟨far, nf, m⟩ : Ent)]).map Ent.v) := by
      rw [List.length_append, List.map_append]
      refine ownsRow_same h1 (fun g e => Below.heap_setCell _ _ _ _ (fun e2 => ?_))
      have : kb < wr.heap.size := h.blk.lt
      replace e2 : g = kb := e2
      rcases hg.at' g e with q | q
      · exact hlt g q e2
      · omega
    have hbk := hk2.set F.ci (.slice vo (es.length + 1) vc)
    rw [set_ci hF.cc] at hbk
    refine hh vo vc w2 (hk2.frozen _) (by rw [hk2.cell, get_ci hF.cc (by rw [h.cs]; exact hF.ci)]) ⟨hbk, ⟨hnew, hR h.kf.xm (by decide) (Ne.symm hF.s3), fun e he => by rcases List.mem_append.1 he with q | q; exact hR (h.kf.en e q) hF.e71 hF.es; rw [List.mem_singleton.1 q]; exact hR h.fr hF.e71 hF.es⟩, hR h.fr hF.e71 hF.es, ?_, ?_, ?_, h.nm, h.nl, ?_, fun e he => by rcases List.mem_append.1 he with q | q; exact h.mrk e q; rw [List.mem_singleton.1 q]; exact .inr rfl, h.cs, h.lk⟩
    · intro e he g q1 q2
      rcases List.mem_append.1 he with q | q
      · exact h.le e q g q1 q2
      · rw [List.mem_singleton.1 q]; exact Nat.le_refl _
    · refine h.chg.trans hc (fun j hj hb => ?_)
      rcases hb with hb | hb
      · exact .inl hb
      · rcases h.ni j hb with q | q
        · exact .inr (.inl q)
        · omega
    · intro g e
      rcases hg.at' g e with q | q
      · exact h.ni g q
      · exact .inr (Nat.le_trans h.chg.size q)
    · intro e he g q1
      rcases List.mem_append.1 he with q | q
      · exact h.ne e q g q1
      · rw [List.mem_singleton.1 q] at q1
        exact .inr (h.nl g q1)
theorem HS.wpM (hF : F.Ok) (h : HS F L kb C vI0 vM0 l es0 w vI vM far es ms nf m wr) (hlen : (ms.length + 1) * 24 ≤ 140737488355328) {ops : Array Oper} {rest : List Oper} {o : Oper} {a : Act} {Q : Exit → Act → World → Prop} (hgd : o.guard = none) (s x : Operand)
    (ho : o.op = .call { callee := .builtin .append, args := #[s, x], argTypes := #[68, 68] }) (hs : a.eval s = vM) {g0 : Nat} (hx : a.eval x = .slice (some ⟨g0, 0, none⟩) 1 1) (hg0 : g0 = wr.heap.size)
    (hh : ∀ vo vc w2, w2.frozen? ⟨kb, F.cm, none⟩ = false → w2.cell? ⟨kb, F.cm, none⟩ = some vM → Hid (HS F L kb C vI0 vM0 l es0 w vI (.slice vo (ms.length + 1) vc) far es (ms ++ [⟨far, nf, m⟩]) nf m (w2.setCell ⟨kb, F.cm, none⟩ (.slice vo (ms.length + 1) vc))) → wpList Try.prog ops Q rest (a.put o.dst (.slice vo (ms.length + 1) vc)) w2) : wpList Try.prog ops Q (o :: rest) a (wr.alloc (.cells #[.int .i64 m] 3)) := by
  subst hg0
  have hB : Blk (wr.alloc (.cells #[.int .i64 m] 3)) wr.heap.size #[.int .i64 m] 3 := heap_alloc_new wr _
  have hlw : L ≤ wr.heap.size := Nat.le_trans h.lk (Nat.le_of_lt h.blk.lt)
  refine wpList_app 68 3 (.int .i64 0) 1 8 Try.underlying68 info3 rfl (by decide) (by decide) hgd s x ho L ms.length vM ((ms.map Ent.m).map I) hs (h.kf.xm.alloc _) ⟨wr.heap.size, 0, none⟩ 1 1 [.int .i64 m] hx rfl (fun j u hu => ?_) (fun u hu => by rw [List.mem_singleton.1 hu]; rfl) (by omega) (by rw [World.size_alloc]; omega) ?_
  · rw [addr_add, Nat.zero_add, hB.cell j]
    match j with
    | 0 => simpa using hu
    | j + 1 => simp at hu
  · intro v2 w2 h1 h2 _
    obtain ⟨vo, vc, rfl, _⟩ := own_slice h1
    have hg := h2.ofAlloc
    have hlt : ∀ g, vM.ownBlock = some g → g ≠ kb := kb_ne h.kf.xm h.blk (by decide)
    have hk2 := (grew_chg hg).blk h.blk (fun e => hlt kb e rfl)
    have hc : Chg (fun k => k = kb ∨ vM.ownBlock = some k) wr (w2.setCell ⟨kb, F.cm, none⟩ (.slice vo (ms.length + 1) vc)) := ((grew_chg hg).mono (fun j _ e => Or.inr e)).trans (chg_setCell _) (fun j _ e => Or.inl e)
    have hR : ∀ {t s n : Nat} {u : Value} {xs : List Value}, wr.ownsRow L t s u n xs → t ≠ 71 → t ≠ 3 → (w2.setCell ⟨kb, F.cm, none⟩ (.slice vo (ms.length + 1) vc)).ownsRow L t s u n xs := fun hu h44 hts => ownsRow_same hu (fun g e => hc.block g (ownsRow_lt hu e).2 (fun hb => by
      rcases hb with hb | hb
      · exact kb_ne hu h.blk h44 g e hb
      · exact ty_ne hu h.kf.xm hts g e hb))
    have hnew : (w2.setCell ⟨kb, F.cm, none⟩ (.slice vo (ms.length + 1) vc)).ownsRow L 3 1 (.slice vo (ms.length + 1) vc) (ms ++ [(⟨far, nf, m⟩ : Ent)]).length (((ms ++ [(⟨far, nf, m⟩ : Ent)]).map Ent.m).map I) := by
      rw [List.length_append, List.map_append, List.map_append]
      refine ownsRow_same h1 (fun g e => Below.heap_setCell _ _ _ _ (fun e2 => ?_))
      have : kb < wr.heap.size := h.blk.lt
      replace e2 : g = kb := e2
      rcases hg.at' g e with q | q
      · exact hlt g q e2
      · omega
    have hbk := hk2.set F.cm (.slice vo (ms.length + 1) vc)
    rw [set_cm] at hbk
    refine hh vo vc w2 (hk2.frozen _) (by rw [hk2.cell, get_cm (by rw [h.cs]; exact hF.cm)]) ⟨hbk, ⟨hR h.kf.xi hF.s71 hF.s3, hnew, fun e he => hR (h.kf.en e he) hF.e71 hF.e3⟩, hR h.fr hF.e71 hF.e3, h.le, ?_, h.ni, ?_, h.nl, h.ne, h.mrk, h.cs, h.lk⟩
    · refine h.chg.trans hc (fun j hj hb => ?_)
      rcases hb with hb | hb
      · exact .inl hb
      · rcases h.nm j hb with q | q
        · exact .inr (.inr (.inl q))
        · omega
    · intro g e
      rcases hg.at' g e with q | q
      · exact h.nm g q
      · exact .inr (Nat.le_trans h.chg.size q)
theorem HS.wpF (hF : F.Ok) (h : HS F L kb C vI0 vM0 l es0 w vI vM far es ms nf m wr) (hlen : nf ≤ 1000100) {ops : Array Oper} {rest : List Oper} {o : Oper} {a : Act} {Q : Exit → Act → World → Prop} (hgd : o.guard = none) (s x : Operand)
    (ho : o.op = .call { callee := .builtin .append, args := #[s, x], argTypes := #[F.ts, F.ts] }) (hs : a.eval s = far) {g0 : Nat} (hx : a.eval x = .slice (some ⟨g0, 0, none⟩) 1 1) (hg0 : g0 = wr.heap.size)
    (hh : ∀ vo vc w2, Hid (HS F L kb C vI0 vM0 l es0 w vI vM (.slice vo (nf + 1) vc) es ms (nf + 1) m w2) → wpList Try.prog ops Q rest (a.put o.dst (.slice vo (nf + 1) vc)) w2) : wpList Try.prog ops Q (o :: rest) a (wr.alloc (.cells (F.mk' m).toArray F.te)) := by
  subst hg0
  have hB : Blk (wr.alloc (.cells (F.mk' m).toArray F.te)) wr.heap.size (F.mk' m).toArray F.te := heap_alloc_new wr _
  have hlw : L ≤ wr.heap.size := Nat.le_trans h.lk (Nat.le_of_lt h.blk.lt)
  have hb1 : (nf + 1) * F.by' ≤ (nf + 1) * 1000 := Nat.mul_le_mul_left _ hF.b1
  refine wpList_app F.ts F.te F.z F.se F.by' hF.ue hF.ie hF.hz hF.s1 hF.b0 hgd s x ho L nf far (full F nf m) hs (h.fr.alloc _) ⟨wr.heap.size, 0, none⟩ 1 1 (F.mk' m) hx (by rw [hF.ml, Nat.one_mul]) (fun j u hu => ?_) (hF.mo m) (by omega) (by rw [World.size_alloc]; omega) ?_
  · rw [addr_add, Nat.zero_add, hB.cell j, ← Array.getElem?_toList]
    exact hu
  · intro v2 w2 h1 h2 h3
    obtain ⟨vo, vc, rfl, _⟩ := own_slice h1
    have hg := h2.ofAlloc
    have hc := grew_chg hg
    have hR : ∀ {t s n : Nat} {u : Value} {xs : List Value}, wr.ownsRow L t s u n xs → t ≠ F.te → w2.ownsRow L t s u n xs := fun hu hts => ownsRow_same hu (fun g e => hc.block g (ownsRow_lt hu e).2 (fun hb => ty_ne hu h.fr hts g e hb))
    have hE : ∀ e ∈ es, w2.ownsRow L F.te F.se e.v e.n (full F e.n e.m) := fun e he => by
      by_cases q : ∃ g, far.ownBlock = some g ∧ e.v.ownBlock = some g
      · obtain ⟨g, q1, q2⟩ := q
        exact h3 e.v e.n L _ (h.le e he g q1 q2) (q2.trans q1.symm) ((h.kf.en e he).alloc _)
      · exact ownsRow_same (h.kf.en e he) (fun g e2 => hc.block g (ownsRow_lt (h.kf.en e he) e2).2 (fun hb => q ⟨g, hb, e2⟩))
    refine hh vo vc w2 ⟨hc.blk h.blk (fun e => kb_ne h.fr h.blk hF.e71 kb e rfl), ⟨hR h.kf.xi (Ne.symm hF.es), hR h.kf.xm (Ne.symm hF.e3), hE⟩, by rw [full_succ]; exact h1, fun e he g q1 q2 => ?_, h.chg.trans hc (fun j hj hb => ?_), h.ni, h.nm, fun g e => ?_, h.ne, h.mrk, h.cs, h.lk⟩
    · rcases hg.at' g q1 with q | q
      · have := h.le e he g q q2; omega
      · have := (ownsRow_lt (h.kf.en e he) q2).2; omega
    · rcases h.nl j hb with q | q
      · exact .inr (.inr (.inr q))
      · omega
    · rcases hg.at' g e with q | q
      · exact h.nl g q
      · exact .inr (Nat.le_trans h.chg.size q)
end
end Go.Proofs.Ytfgnlfemckdfnaa.Sh
