import Derived.Test.YtkdndfdofhnagaaDoorHm
import Derived.Test.YtkdndfdofhnagaaDoorJD
namespace Go.Proofs.YtkdndfdofhnagaaDoor
open Go.RowKit Go.PlainAid
set_option linter.unusedVariables false
set_option linter.unusedSimpArgs false
/-- What else stays where the blocks of A may change. -/
structure Chg (A : Nat → Prop) (w w' : World) : Prop where
  os : w'.os = w.os
  tape : w'.tape = w.tape
  output : w'.output = w.output
  size : w.heap.size ≤ w'.heap.size
  block : ∀ k, k < w.heap.size → ¬ A k → w'.heap[k]? = w.heap[k]?
theorem Chg.refl (A : Nat → Prop) (w : World) : Chg A w w := ⟨rfl, rfl, rfl, Nat.le_refl _, fun _ _ _ => rfl⟩
theorem Chg.trans {A B : Nat → Prop} {a b c : World} (h : Chg A a b) (k : Chg B b c) (hs : ∀ j, j < a.heap.size → B j → A j) : Chg A a c :=
  ⟨k.os.trans h.os, k.tape.trans h.tape, k.output.trans h.output, Nat.le_trans h.size k.size, fun j hj hn => (k.block j (Nat.lt_of_lt_of_le hj h.size) (fun hb => hn (hs j hj hb))).trans (h.block j hj hn)⟩
theorem Chg.mono {A B : Nat → Prop} {a b : World} (h : Chg A a b) (hs : ∀ j, j < a.heap.size → A j → B j) : Chg B a b :=
  ⟨h.os, h.tape, h.output, h.size, fun j hj hn => h.block j hj (fun ha => hn (hs j hj ha))⟩
theorem Chg.ofBelow (A : Nat → Prop) {w w' : World} (h : Below w.heap.size w w') : Chg A w w' := ⟨h.os, h.tape, h.output, h.size, fun k hk _ => h.block k hk⟩
theorem Chg.ofStq {hb : Nat} {w w' : World} (h : Stq hb w w') : Chg (fun k => k = hb) w w' := ⟨h.os, h.tape, h.output, h.size, h.block⟩
theorem Chg.below {A : Nat → Prop} {w w' : World} (h : Chg A w w') {L : Nat} (hL : L ≤ w.heap.size) (h1 : ∀ k, A k → L ≤ k) : Below L w w' :=
  ⟨h.os, h.tape, h.output, h.size, fun k hk => h.block k (by omega) (fun ha => by have := h1 k ha; omega)⟩
theorem Chg.blk {A : Nat → Prop} {w w' : World} {hc : Nat} {C : Array Value} {T : TypeId} (h : Chg A w w') (hB : Blk w hc C T) (hn : ¬ A hc) : Blk w' hc C T := (h.block hc hB.lt hn).trans hB
theorem Chg.hmap {A : Nat → Prop} {w w' : World} {mb : Nat} {m : Int} {L : List Hd} (h : Chg A w w') (hB : HMap w mb m L) (hn : ¬ A mb) : HMap w' mb m L := hB.same (h.block mb hB.lt hn)
theorem Chg.drewN {A : Nat → Prop} {w w' : World} (h : Chg A w w') (q : Nat) : Chg A w (w'.drewN q) := ⟨h.os, h.tape, h.output, h.size, h.block⟩

theorem Blk.ne_t {w : World} {a b : Nat} {C D : Array Value} {T U : TypeId} (h1 : Blk w a C T) (h2 : Blk w b D U) (h : T ≠ U) : a ≠ b := fun e => by
  subst e
  have := h1.symm.trans h2
  simp only [Option.some.injEq, Obj.cells.injEq] at this
  exact h this.2.1
theorem Blk.ne_m {w : World} {a b : Nat} {C : Array Value} {T : TypeId} {m : Int} {L : List Hd} (h1 : Blk w a C T) (h2 : HMap w b m L) : a ≠ b := fun e => by
  obtain ⟨es, c, h2, _⟩ := h2
  subst e
  have := h1.symm.trans h2
  simp at this
structure BS where
  me : Int
  room : Int
  made : Int
  L : List Hd
def BS.cs (b : BS) (mb : Nat) : Array Value := #[.int .i64 b.me, .int .i64 b.room, .int .i64 b.made, .map (some mb)]
structure BS.Ok (b : BS) : Prop where
  me0 : 0 ≤ b.me
  me1 : b.me < 16
  r1 : b.room ≤ 16
  len : (b.L.length : Int) ≤ b.room
  made0 : 0 ≤ b.made
  keys : b.L.Pairwise (fun x y => x.k < y.k)
  each : ∀ h ∈ b.L, 1 ≤ h.k ∧ h.k ≤ b.made ∧ 1 ≤ h.am ∧ h.am ≤ 1099511627776
structure Bk (hb mb : Nat) (b : BS) (w : World) : Prop where
  blk : Blk w hb (b.cs mb) 68
  map : HMap w mb b.me b.L
theorem Bk.ne {hb mb : Nat} {b : BS} {w : World} (h : Bk hb mb b w) : hb ≠ mb := by
  obtain ⟨h1, es, c, h2, _⟩ := h
  intro e
  subst e
  unfold Blk at h1
  rw [h1] at h2
  cases h2
theorem Bk.keep {hb mb : Nat} {b : BS} {w w' : World} {A : Nat → Prop} (h : Bk hb mb b w) (hc : Chg A w w') (h1 : ¬ A hb) (h2 : ¬ A mb) : Bk hb mb b w' := ⟨hc.blk h.blk h1, hc.hmap h.map h2⟩
theorem Bk.c0 {hb mb : Nat} {b : BS} {w : World} (h : Bk hb mb b w) : w.cell? ⟨hb, 0, none⟩ = some (.int .i64 b.me) := h.blk.cell 0
theorem Bk.c1 {hb mb : Nat} {b : BS} {w : World} (h : Bk hb mb b w) : w.cell? ⟨hb, 1, none⟩ = some (.int .i64 b.room) := h.blk.cell 1
theorem Bk.c2 {hb mb : Nat} {b : BS} {w : World} (h : Bk hb mb b w) : w.cell? ⟨hb, 2, none⟩ = some (.int .i64 b.made) := h.blk.cell 2
theorem Bk.c3 {hb mb : Nat} {b : BS} {w : World} (h : Bk hb mb b w) : w.cell? ⟨hb, 3, none⟩ = some (.map (some mb)) := h.blk.cell 3

theorem tmod16 (n : Int) : -16 < n.tmod 16 ∧ n.tmod 16 < 16 ∧ (n.tmod 16 + 16).tmod 16 = n % 16 := by
  have h1 : n.tmod 16 = if 0 ≤ n then n % 16 else -((-n) % 16) := by
    split
    · rename_i h; exact Int.tmod_eq_emod_of_nonneg h
    · rename_i h
      have := Int.neg_tmod (-n) 16
      rw [Int.neg_neg] at this
      rw [this, Int.tmod_eq_emod_of_nonneg (by omega)]
  have h2 : 0 ≤ n.tmod 16 + 16 := by rw [h1]; split <;> omega
  rw [Int.tmod_eq_emod_of_nonneg h2, h1]
  split <;> omega
theorem tdiv16 (n : Int) : (n - n % 16).tdiv 16 = n / 16 := by
  have : n - n % 16 = (n / 16) * 16 := by omega
  rw [this]
  exact Int.mul_tdiv_cancel _ (by decide)
theorem of_any (n : Int) (w : World) : Calls Tryd.prog 19 #[.int .i64 n] w fun r w' => r = .returned (.int .i64 (n % 16)) ∧ w' = w := by
  obtain ⟨h1, h2, h3⟩ := tmod16 n
  have h4 : IntKind.i64.wrap (n.tmod 16 + 16) = n.tmod 16 + 16 := by rw [IntKind.wrap_i64]; omega
  go_enter Tryd.func19, Tryd.ntmps19
  go_wp2
  go_ret
  exact ⟨rfl, rfl⟩
theorem rof_any (n : Int) (w : World) : Calls Tryd.prog 49 #[.int .i64 n] w fun r w' => r = .returned (.int .i64 (n % 16)) ∧ w' = w := by
  have h1 : n.tmod 16 = if 0 ≤ n then n % 16 else -((-n) % 16) := by
    split
    · rename_i h; exact Int.tmod_eq_emod_of_nonneg h
    · rename_i h
      have := Int.neg_tmod (-n) 16
      rw [Int.neg_neg] at this
      rw [this, Int.tmod_eq_emod_of_nonneg (by omega)]
  by_cases h : n.tmod 16 < 0
  · have h3 : n.tmod 16 + 16 = n % 16 := by rw [h1] at h ⊢; split at h <;> rename_i hn <;> simp only [hn, if_true, if_false] <;> omega
    have h4 : IntKind.i64.wrap (n.tmod 16 + 16) = n.tmod 16 + 16 := by rw [IntKind.wrap_i64]; omega
    rw [← h3]
    clear h1 h3
    go_enter Tryd.func49, Tryd.ntmps49
    go_wp2
    go_ret
    exact ⟨rfl, rfl⟩
  · have h3 : n.tmod 16 = n % 16 := by rw [h1] at h ⊢; split at h <;> rename_i hn <;> simp only [hn, if_true, if_false] <;> omega
    rw [← h3]
    clear h1 h3
    go_enter Tryd.func49, Tryd.ntmps49
    go_wp2
    go_ret
    exact ⟨rfl, rfl⟩
set_option maxRecDepth 100000 in
theorem number_any (m k : Int) (w : World) (h1 : IntKind.i64.wrap (k * 16) = k * 16) (h2 : IntKind.i64.wrap (k * 16 + m) = k * 16 + m) :
    Calls Tryd.prog 37 #[keyV m k] w fun r w' => r = .returned (.int .i64 (k * 16 + m)) ∧ w' = w.alloc (.cells #[.int .i64 m, .int .i64 k] 78 (0, 0)) := by
  show Calls Tryd.prog 37 #[.agg #[.int .i64 m, .int .i64 k]] w _
  go_enter Tryd.func37, Tryd.ntmps37
  go_wp2
  go_ret
  exact ⟨rfl, rfl⟩
set_option maxRecDepth 100000 in
theorem placeOf_any (n : Int) (w : World) (hn : IntKind.i64.wrap n = n) :
    Calls Tryd.prog 41 #[.int .i64 n] w fun r w' => r = .returned (keyV (n % 16) (n / 16)) ∧ Below w.heap.size w w' := by
  have h1 : IntKind.i64.wrap (n - n % 16) = n - n % 16 := by rw [IntKind.wrap_i64] at hn ⊢; omega
  have h2 := tdiv16 n
  have h3 : IntKind.i64.wrap (n / 16) = n / 16 := by rw [IntKind.wrap_i64] at hn ⊢; omega
  have ha := of_any n
  clear hn
  show Calls Tryd.prog 41 _ w fun r w' => r = .returned (.agg #[.int .i64 (n % 16), .int .i64 (n / 16)]) ∧ _
  generalize n % 16 = a at *
  generalize n / 16 = b at *
  go_enter Tryd.func41, Tryd.ntmps41
  go_wp2_with (go_at_call 19; refine (ha _).mono ?_; rintro e w' ⟨rfl, rfl⟩)
  have hB : (w.alloc (.cells #[.int .i64 a, .int .i64 b] 78)).heap[w.heap.size]? = some (.cells #[.int .i64 a, .int .i64 b] 78 (0, 0)) := heap_alloc_new w _
  exact bodyPost_ret (results_cell_row Tryd.results41 _ _ (w.heap.size) 78 _ (0, 0) _ rfl hB Tryd.underlying78 rfl (by kernel_rfl)) rfl ⟨rfl, by go_grown⟩
end Go.Proofs.YtkdndfdofhnagaaDoor
namespace Go.Proofs.YtkdndfdofhnagaaDoor
open Go.RowKit Go.PlainAid
set_option linter.unusedVariables false
set_option linter.unusedSimpArgs false
/-- What becomes of a row that is appended to, and of all else. -/
structure Grew (w w' : World) (v v' : Value) : Prop where
  g : w.grownBy w' v.ownBlock
  at' : ∀ j, v'.ownBlock = some j → v.ownBlock = some j ∨ w.heap.size ≤ j
theorem Grew.refl (w : World) (v : Value) : Grew w w v v := ⟨⟨rfl, rfl, rfl, Nat.le_refl _, fun _ _ _ => rfl⟩, fun _ h => Or.inl h⟩
theorem Grew.trans {a b c : World} {u v x : Value} (h : Grew a b u v) (k : Grew b c v x) : Grew a c u x := by
  refine ⟨⟨k.g.os.trans h.g.os, k.g.tape.trans h.g.tape, k.g.output.trans h.g.output, Nat.le_trans h.g.size k.g.size, fun j hj hne => ?_⟩, fun j hj => ?_⟩
  · refine (k.g.block j (Nat.lt_of_lt_of_le hj h.g.size) ?_).trans (h.g.block j hj hne)
    intro e
    rcases h.at' j e.symm with h1 | h1
    · exact hne h1.symm
    · omega
  · rcases k.at' j hj with h1 | h1
    · exact h.at' j h1
    · exact Or.inr (Nat.le_trans h.g.size h1)
theorem Grew.chg {w w' : World} {v v' : Value} (h : Grew w w' v v') : Chg (fun k => v.ownBlock = some k) w w' := ⟨h.g.os, h.g.tape, h.g.output, h.g.size, fun k hk hn => h.g.block k hk (fun e => hn e.symm)⟩
theorem Grew.ofAlloc {w w' : World} {v v' : Value} {o : Obj} (h : Grew (w.alloc o) w' v v') : Grew w w' v v' := by
  refine ⟨⟨h.g.os, h.g.tape, h.g.output, by have := h.g.size; rw [World.size_alloc] at this; omega, fun k hk hne => ?_⟩, fun j hj => ?_⟩
  · exact (h.g.block k (by rw [World.size_alloc]; omega) hne).trans (Below.heap_alloc _ _ _ hk)
  · rcases h.at' j hj with h1 | h1
    · exact Or.inl h1
    · rw [World.size_alloc] at h1; exact Or.inr (by omega)
theorem ownsRow_same {w w' : World} {base e s n : Nat} {v : Value} {xs : List Value} (h : w.ownsRow base e s v n xs) (hb : ∀ g, v.ownBlock = some g → w'.heap[g]? = w.heap[g]?) : w'.ownsRow base e s v n xs := by
  refine ⟨h.1, ?_⟩
  rcases h.2 with h2 | ⟨g, c, cur, rfl, h3, h4, h5⟩
  · exact Or.inl h2
  · exact Or.inr ⟨g, c, cur, rfl, h3, (hb g rfl).trans h4, h5⟩
theorem ownsRow_type {w : World} {base e s n : Nat} {v : Value} {xs : List Value} (h : w.ownsRow base e s v n xs) {g : Nat} (hg : v.ownBlock = some g) : ∃ cur, w.heap[g]? = some (.cells cur e (0, 0)) := by
  rcases h.2 with ⟨rfl, _⟩ | ⟨g2, c, cur, rfl, h3, h4, h5⟩
  · cases hg
  · cases hg; exact ⟨cur, h4⟩
theorem ownsRow_mono {w : World} {base base' e s n : Nat} {v : Value} {xs : List Value} (h : w.ownsRow base e s v n xs) (hb : base' ≤ base) : w.ownsRow base' e s v n xs := by
  refine ⟨h.1, ?_⟩
  rcases h.2 with h2 | ⟨g, c, cur, rfl, h3, h5⟩
  · exact Or.inl h2
  · exact Or.inr ⟨g, c, cur, rfl, by omega, h5⟩
theorem ownsRow_lt {w : World} {base e s n : Nat} {v : Value} {xs : List Value} (h : w.ownsRow base e s v n xs) {g : Nat} (hg : v.ownBlock = some g) : base ≤ g ∧ g < w.heap.size := h.lt g hg
theorem own_slice {w : World} {base n e s : Nat} {v : Value} {xs : List Value} (h : w.ownsRow base e s v n xs) : ∃ ao cap, v = .slice ao n cap ∧ n ≤ cap := by
  rcases h.2 with ⟨rfl, rfl⟩ | ⟨g, cap, cur, rfl, _, _, hc, _⟩
  · exact ⟨none, 0, rfl, Nat.le_refl _⟩
  · exact ⟨_, cap, rfl, hc⟩
/-- A row is read: where its elements lie. -/
theorem own_read {w : World} {base n e s : Nat} {v : Value} {xs : List Value} (h : w.ownsRow base e s v n xs) : ∃ ao cap, v = .slice ao n cap ∧ n ≤ cap ∧ cap ≤ maxLen ∧ (0 < n → ∃ g, ao = some ⟨g, 0, none⟩ ∧ base ≤ g ∧ g < w.heap.size ∧ ∀ j u, xs[j]? = some u → w.cell? ⟨g, j, none⟩ = some u) := by
  rcases h.2 with ⟨rfl, rfl⟩ | ⟨g, cap, cur, rfl, hb, hg, hc, hm, hcs, htk⟩
  · exact ⟨none, 0, rfl, Nat.le_refl _, Nat.zero_le _, fun h => by omega⟩
  · refine ⟨_, cap, rfl, hc, hm, fun _ => ⟨g, rfl, hb, (Array.getElem?_eq_some_iff.1 hg).1, fun j u hu => ?_⟩⟩
    rw [cell_of_row w g j cur e (0, 0) hg, ← Array.getElem?_toList]
    rw [← htk, List.getElem?_take] at hu
    split at hu
    · exact hu
    · cases hu
/-- An append, whatever the elements: the row behind it, where it lies, and what else within the old row stays. -/
theorem app_any (t e : TypeId) (z : Value) (size bytes : Nat) (ht : Tryd.prog.underlying t = some (.slice e)) (hinfo : (Tryd.prog.info? e).map (fun i => (i.zero, i.size, i.bytes)) = some (some z, size, bytes)) (hzz : z.cells.size = size) (hs0 : 1 ≤ size) (hby : bytes ≤ 24) (hb0 : 0 < bytes)
    {w : World} {base k : Nat} {v : Value} {xs : List Value} (hown : w.ownsRow base e size v k xs) (ad : Addr) (m cap : Nat) (ys : List Value) (hys : ys.length = m * size) (hnews : ∀ j u, ys[j]? = some u → w.cell? (ad.add j) = some u) (hone : ∀ u ∈ ys, u.oneCell' = true) (hlen : k + m ≤ 100000) (hbase : base ≤ w.heap.size) (ty : TypeId) :
    ∃ v' w', (Builtin.append_ #[t, t] ty #[v, .slice (some ad) m cap]).run Tryd.prog w = .ok v' w' ∧ w'.ownsRow base e size v' (k + m) (xs ++ ys) ∧ Grew w w' v v' ∧
      ∀ (d : Value) (n base' : Nat) (zs : List Value), n ≤ k → d.ownBlock = v.ownBlock → w.ownsRow base' e size d n zs → w'.ownsRow base' e size d n zs := by
  obtain ⟨i0, hi, hz0, hz1, hz2⟩ := info_parts hinfo
  have hby2 : (k + m) * bytes ≤ 140737488355328 := Nat.le_trans (Nat.mul_le_mul hlen hby) (by decide)
  obtain ⟨v', w', hr, h1, h2, _⟩ := run_append_own (P := Tryd.prog) w base t ty e i0 z size bytes ht hi hz0 hz1 hz2 hzz hs0 v k xs hown ad m cap ys hys hnews hone (by unfold maxLen; omega) hby2 hbase
  refine ⟨v', w', hr, h1, ⟨h2, ?_⟩, fun d n base' zs hn hd hod => ?_⟩
  · rcases hown.2 with ⟨rfl, rfl⟩ | ⟨g, c, cur, rfl, _, hg, hnc, hcm, hcs, htk⟩
    · have hx : xs = [] := List.eq_nil_of_length_eq_zero (by simpa using hown.1)
      obtain ⟨v1, w1, hr1, ho1, _⟩ := run_append_own (P := Tryd.prog) w w.heap.size t ty e i0 z size bytes ht hi hz0 hz1 hz2 hzz hs0 (.slice none 0 0) 0 [] (World.ownsRow_nil _ _ _ _) ad m cap ys hys hnews hone (by unfold maxLen; omega) hby2 (Nat.le_refl _)
      rw [hr] at hr1
      cases hr1
      exact fun j hj => Or.inr (ho1.lt j hj).1
    · by_cases hroom : k + m ≤ c
      · have hr1 := run_append_room (P := Tryd.prog) w t ty e i0 ht hi g k c cur hg ad m cap ys (by rw [hz1]; exact hys) hnews hone hroom (by rw [hz1, hcs, hys, ← Nat.add_mul]; exact Nat.mul_le_mul_right _ hroom)
        rw [hr] at hr1
        cases hr1
        exact fun j hj => Or.inl hj
      · have hr1 := run_append_grow (P := Tryd.prog) w t ty e i0 z ht hi hz0 ⟨g, 0, none⟩ k c xs (by rw [hz1]; exact hown.1) (hown.cells (g := g) rfl) ad m cap ys (by rw [hz1]; exact hys) hnews (by omega) (by omega) (growslice_fits (by omega) (by rw [hz2]; exact hby2))
        rw [hr] at hr1
        cases hr1
        intro j hj
        cases hj
        exact Or.inr (Nat.le_refl _)
  · rcases hown.2 with ⟨rfl, rfl⟩ | ⟨g, c, cur, rfl, _, hg, hnc, hcm, hcs, htk⟩
    · rcases hod.2 with ⟨rfl, rfl⟩ | ⟨g2, c2, cur2, rfl, _⟩
      · exact ⟨hod.1, Or.inl ⟨rfl, rfl⟩⟩
      · cases hd
    · rcases hod.2 with ⟨rfl, rfl⟩ | ⟨g2, c2, cur2, rfl, hb2, hg2, hnc2, hcm2, hcs2, htk2⟩
      · cases hd
      · cases hd
        rw [hg] at hg2
        cases hg2
        by_cases hroom : k + m ≤ c
        · have hfit : k * i0.size + ys.length ≤ cur.size := by rw [hz1, hcs, hys, ← Nat.add_mul]; exact Nat.mul_le_mul_right _ hroom
          have hr1 := run_append_room (P := Tryd.prog) w t ty e i0 ht hi g k c cur hg ad m cap ys (by rw [hz1]; exact hys) hnews hone hroom hfit
          rw [hr] at hr1
          cases hr1
          have hsz : (cur.toList.take (k * i0.size) ++ ys ++ cur.toList.drop (k * i0.size + ys.length)).toArray.size = cur.size := by
            simp only [List.size_toArray, List.length_append, List.length_take, List.length_drop, Array.length_toList]
            omega
          have hnk : n * size ≤ k * i0.size := by rw [hz1]; exact Nat.mul_le_mul_right _ hn
          refine ⟨hod.1, Or.inr ⟨g, c2, _, rfl, hb2, setRow_heap _ _ _ _ e _ hg, hnc2, hcm2, by rw [hsz]; exact hcs2, ?_⟩⟩
          rw [List.append_assoc]
          rw [List.take_append_of_le_length (by simp only [List.length_take, Array.length_toList]; omega), List.take_take, Nat.min_eq_left hnk, htk2]
        · have hr1 := run_append_grow (P := Tryd.prog) w t ty e i0 z ht hi hz0 ⟨g, 0, none⟩ k c xs (by rw [hz1]; exact hown.1) (hown.cells (g := g) rfl) ad m cap ys (by rw [hz1]; exact hys) hnews (by omega) (by omega) (growslice_fits (by omega) (by rw [hz2]; exact hby2))
          rw [hr] at hr1
          cases hr1
          refine ownsRow_same hod fun j hj => ?_
          cases hj
          have := (Array.getElem?_eq_some_iff.1 hg).1
          exact Below.heap_alloc _ _ _ (by simpa using this)
/-- The step of it in a walk. -/
theorem wpList_app (t e : TypeId) (z : Value) (size bytes : Nat) (ht : Tryd.prog.underlying t = some (.slice e)) (hinfo : (Tryd.prog.info? e).map (fun i => (i.zero, i.size, i.bytes)) = some (some z, size, bytes)) (hzz : z.cells.size = size) (hs0 : 1 ≤ size) (hby : bytes ≤ 24) (hb0 : 0 < bytes)
    {w : World} {ops : Array Oper} {rest : List Oper} {o : Oper} {a : Act} {Q : Exit → Act → World → Prop} (hgd : o.guard = none) (s x : Operand)
    (ho : o.op = .call { callee := .builtin .append, args := #[s, x], argTypes := #[t, t] })
    (base k : Nat) (v : Value) (xs : List Value) (hs : a.eval s = v) (hown : w.ownsRow base e size v k xs)
    (ad : Addr) (m cap : Nat) (ys : List Value) (hx : a.eval x = .slice (some ad) m cap) (hys : ys.length = m * size) (hnews : ∀ j u, ys[j]? = some u → w.cell? (ad.add j) = some u) (hone : ∀ u ∈ ys, u.oneCell' = true) (hlen : k + m ≤ 100000) (hbase : base ≤ w.heap.size)
    (h : ∀ v' w', w'.ownsRow base e size v' (k + m) (xs ++ ys) → Grew w w' v v' → (∀ (d : Value) (n base' : Nat) (zs : List Value), n ≤ k → d.ownBlock = v.ownBlock → w.ownsRow base' e size d n zs → w'.ownsRow base' e size d n zs) → wpList Tryd.prog ops Q rest (a.put o.dst v') w') : wpList Tryd.prog ops Q (o :: rest) a w := by
  obtain ⟨v', w', hr, h1, h2, h3⟩ := app_any t e z size bytes ht hinfo hzz hs0 hby hb0 hown ad m cap ys hys hnews hone hlen hbase o.type
  refine wpList_plain hgd fun K hK => ?_
  unfold Oper.wp execOp
  simp only [ho, resolve, invoke, builtin, Sem.run_bind, Sem.run_pure, Result.andThen_ok, List.map_toArray, List.map_cons, List.map_nil, hs, hx, hr]
  exact hK _ _ (h v' w' h1 h2 h3)
def I (z : Int) : Value := .int .i64 z
theorem info3 : (Tryd.prog.info? 3).map (fun i => (i.zero, i.size, i.bytes)) = some (some (.int .i64 0), 1, 8) := by kernel_rfl
theorem info48 : (Tryd.prog.info? 48).map (fun i => (i.zero, i.size, i.bytes)) = some (some (.slice none 0 0), 1, 24) := by kernel_rfl
theorem info104 : (Tryd.prog.info? 104).map (fun i => (i.zero, i.size, i.bytes)) = some (some (.agg #[.int .i64 0, .int .i64 0, .int .i64 0]), 3, 24) := by kernel_rfl
theorem oneI (zs : List Int) : ∀ u ∈ zs.map I, u.oneCell' = true := by
  intro u hu
  obtain ⟨z, _, rfl⟩ := List.mem_map.1 hu
  rfl
/-- One number is appended, that lies in the new block ahead of it. -/
theorem wpList_appI {w : World} {ops : Array Oper} {rest : List Oper} {o : Oper} {a : Act} {Q : Exit → Act → World → Prop} (hgd : o.guard = none) (s x : Operand)
    (ho : o.op = .call { callee := .builtin .append, args := #[s, x], argTypes := #[48, 48] })
    (base k : Nat) (v : Value) (zs : List Int) (hs : a.eval s = v) (hown : w.ownsRow base 3 1 v k (zs.map I)) (z : Int) {g : Nat} (hx : a.eval x = .slice (some ⟨g, 0, none⟩) 1 1) (hgs : g = w.heap.size) (hlen : k + 1 ≤ 100000) (hbase : base ≤ w.heap.size)
    (h : ∀ v' w', w'.ownsRow base 3 1 v' (k + 1) ((zs ++ [z]).map I) → Grew w w' v v' → (∀ (d : Value) (n base' : Nat) (ys : List Value), n ≤ k → d.ownBlock = v.ownBlock → w.ownsRow base' 3 1 d n ys → w'.ownsRow base' 3 1 d n ys) → wpList Tryd.prog ops Q rest (a.put o.dst v') w') :
    wpList Tryd.prog ops Q (o :: rest) a (w.alloc (.cells #[.int .i64 z] 3)) := by
  subst hgs
  have hlt := fun g hg => (ownsRow_lt hown (g := g) hg).2
  refine wpList_app 48 3 (.int .i64 0) 1 8 Tryd.underlying48 info3 rfl (by decide) (by decide) (by decide) hgd s x ho base k v (zs.map I) hs (hown.alloc _) ⟨w.heap.size, 0, none⟩ 1 1 [I z] hx rfl ?_ (oneI [z]) hlen (by rw [World.size_alloc]; omega) ?_
  · intro j u hu
    match j with
    | 0 =>
      simp at hu
      subst hu
      rw [addr_add]
      exact cell_of_row _ _ 0 _ 3 (0, 0) (heap_alloc_new w _)
    | j + 1 => simp at hu
  · intro v' w' h1 h2 h3
    refine h v' w' (by rw [List.map_append]; exact h1) h2.ofAlloc (fun d n base' ys hn hd hod => h3 d n base' ys hn hd (hod.alloc _))
end Go.Proofs.YtkdndfdofhnagaaDoor
