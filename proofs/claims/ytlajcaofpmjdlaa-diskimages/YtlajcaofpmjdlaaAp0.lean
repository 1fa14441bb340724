import Derived.Test.YtlajcaofpmjdlaaPs2
namespace Go.Proofs.Ytlajcaofpmjdlaa
open Go.RowKit Go.PlainAid
set_option linter.unusedVariables false
set_option linter.unusedSimpArgs false
/-- Parts by their numbers. -/
def Fl {L : Nat} (m : Nat) (F : Nat → Ent L) : List (Ent L) := (List.range m).map F
section
variable {L : Nat} {pre post : List (Ent L)} {F G : Nat → Ent L} {m i : Nat} {e' : Ent L} {w w' : World}
theorem Fl_congr (h : ∀ k, k < m → F k = G k) : Fl m F = Fl m G := List.map_congr_left (fun k hk => h k (List.mem_range.1 hk))
theorem Fl_mem (hi : i < m) : F i ∈ Fl m F := List.mem_map_of_mem (List.mem_range.2 hi)
theorem Fl_split (F : Nat → Ent L) (a b : Nat) : Fl (a + (b + 1)) F = Fl a F ++ F a :: (List.range b).map (fun x => F (a + 1 + x)) := by
  unfold Fl
  rw [List.range_add, List.map_append, List.range_succ_eq_map]
  simp [List.map_map, Function.comp_def, Nat.add_assoc, Nat.add_comm 1]
theorem Held.atN (G : Nat → Ent L) (h : Held (pre ++ (Fl m F ++ post)) w) (hi : i < m) (hne : ∀ k, k ≠ i → G k = F k) (hc : Chg (fun k => (F i).bl k) w w') (hP : (G i).P w') (hu : ∀ k, (G i).bl k → (F i).bl k ∨ w.heap.size ≤ k) : Held (pre ++ (Fl m G ++ post)) w' := by
  obtain ⟨b, rfl⟩ : ∃ b, m = i + (b + 1) := ⟨m - i - 1, by omega⟩
  rw [Fl_split] at h ⊢
  have e1 : Fl i G = Fl i F := Fl_congr (fun k hk => hne k (by omega))
  have e2 : (List.range b).map (fun x => G (i + 1 + x)) = (List.range b).map (fun x => F (i + 1 + x)) := List.map_congr_left (fun x _ => hne _ (by omega))
  rw [e1, e2]
  have h1 : Held ((pre ++ Fl i F) ++ F i :: ((List.range b).map (fun x => F (i + 1 + x)) ++ post)) w := by simpa [List.append_assoc] using h
  have h2 := h1.at hc hP hu
  simpa [List.append_assoc] using h2
theorem Held.impN (h : Held (pre ++ (Fl m F ++ post)) w) (hP : ∀ k, k < m → (F k).P w → (G k).P w) (hb : ∀ k j, (G k).bl j → (F k).bl j) : Held (pre ++ (Fl m G ++ post)) w := by
  have hin : ∀ k, k < m → F k ∈ pre ++ (Fl m F ++ post) := fun k hk => List.mem_append_right _ (List.mem_append_left _ (Fl_mem hk))
  refine ⟨fun e he => ?_, ?_⟩
  · rcases List.mem_append.1 he with h1 | h1
    · exact h.all e (List.mem_append_left _ h1)
    · rcases List.mem_append.1 h1 with h2 | h2
      · obtain ⟨k, hk, rfl⟩ := List.mem_map.1 h2
        exact hP k (List.mem_range.1 hk) (h.all _ (hin k (List.mem_range.1 hk)))
      · exact h.all e (List.mem_append_right _ (List.mem_append_right _ h2))
  · have hd := h.dj
    rw [List.pairwise_append, List.pairwise_append] at hd ⊢
    obtain ⟨h1, ⟨h2, h3, h4⟩, h5⟩ := hd
    refine ⟨h1, ⟨?_, h3, ?_⟩, ?_⟩
    · unfold Fl at h2 ⊢
      rw [List.pairwise_map] at h2 ⊢
      exact h2.imp fun {a b} hab k hk1 hk2 => hab k (hb a k hk1) (hb b k hk2)
    · intro a ha b hb'
      obtain ⟨k, hk, rfl⟩ := List.mem_map.1 ha
      exact fun j hj => h4 (F k) (Fl_mem (List.mem_range.1 hk)) b hb' j (hb k j hj)
    · intro a ha b hb'
      rcases List.mem_append.1 hb' with h6 | h6
      · obtain ⟨k, hk, rfl⟩ := List.mem_map.1 h6
        exact fun j hj hj' => h5 a ha (F k) (List.mem_append_left _ (Fl_mem (List.mem_range.1 hk))) j hj (hb k j hj')
      · exact h5 a ha b (List.mem_append_right _ h6)
theorem Held.getN (h : Held (pre ++ (Fl m F ++ post)) w) (hi : i < m) : (F i).P w := h.all _ (List.mem_append_right _ (List.mem_append_left _ (Fl_mem hi)))
theorem Held.belowN (h : Held (pre ++ (Fl m F ++ post)) w) (hi : i < m) (hL : L ≤ w.heap.size) (hc : Chg (fun k => (F i).bl k) w w') : Below L w w' :=
  Held.below2 h hL hc (fun k hk => ⟨F i, List.mem_append_right _ (List.mem_append_left _ (Fl_mem hi)), hk⟩)
end
/-- A cell of such a slice is written. -/
theorem tail_set {w : World} {L e g off n cap : Nat} {xs : List Value} (h : Tail w L e (.slice (some ⟨g, off, none⟩) n cap) n xs) (j : Nat) (hj : j < n) (u : Value) :
    Tail (w.setCell ⟨g, off + j, none⟩ u) L e (.slice (some ⟨g, off, none⟩) n cap) n (xs.set j u) ∧ w.frozen? ⟨g, off + j, none⟩ = false := by
  rcases h.2 with ⟨e1, e2⟩ | ⟨g', off', cap', e1, h1, ⟨cur, h2, h3⟩, h4, h5⟩
  · cases e1
  · cases e1
    have hB : Blk w g cur e := h2
    have hB2 := hB.set (off + j) u
    refine ⟨⟨by rw [List.length_set]; exact h.1, Or.inr ⟨g, off, cap, rfl, h1, ⟨_, hB2, by simpa using h3⟩, h4, fun k x hk => ?_⟩⟩, hB.frozen _⟩
    rw [hB2.cell]
    by_cases hkj : k = j
    · subst hkj
      rw [List.getElem?_set_self (by rw [h.1]; exact hj)] at hk
      cases hk
      rw [Array.getElem?_setIfInBounds_self_of_lt (by omega)]
    · rw [List.getElem?_set_ne (fun e => hkj e.symm)] at hk
      rw [Array.getElem?_setIfInBounds_ne (by omega), ← hB.cell]
      exact h5 k x hk
section
variable {P : Program} (w : World)
/-- 'append' onto such a slice: in its own row, or all that was there stays. -/
theorem run_append_tail2 (t ty : TypeId) (L : Nat) (e : TypeId) (i : TypeInfo) (z : Value) (bytes : Nat) (ht : P.underlying t = some (.slice e)) (hi : P.info? e = some i) (hz : i.zero = some z)
    (hsize : i.size = 1) (hby : i.bytes = bytes) (hzs : z.cells.size = 1)
    (v : Value) (n : Nat) (xs : List Value) (hown : Tail w L e v n xs)
    (ad : Addr) (m c : Nat) (news : List Value) (hl : news.length = m) (hnews : ∀ j u, news[j]? = some u → w.cell? (ad.add j) = some u) (h1 : ∀ u ∈ news, u.oneCell' = true)
    (hm : 0 < m) (h63 : n + m ≤ maxLen) (hbytes : (n + m) * bytes ≤ 140737488355328) (hbase : L ≤ w.heap.size) (H : Nat) (hH : w.heap.size = H) :
    ∃ g off cap w', (Builtin.append_ #[t, t] ty #[v, .slice (some ad) m c]).run P w = .ok (.slice (some ⟨g, off, none⟩) (n + m) cap) w' ∧
      Tail w' L e (.slice (some ⟨g, off, none⟩) (n + m) cap) (n + m) (xs ++ news) ∧ w.grownBy w' v.ownBlock ∧ (v = .slice (some ⟨g, off, none⟩) n cap ∨ (H ≤ g ∧ ∀ k, k < w.heap.size → w'.heap[k]? = w.heap[k]?)) := by
  rcases hown.2 with ⟨rfl, rfl⟩ | ⟨g, off, cap, rfl, hg, ⟨cur, hh, hs⟩, hc, hall⟩
  · obtain rfl : xs = [] := List.eq_nil_of_length_eq_zero hown.1
    obtain ⟨g, cap, w', hr, h2, h3, h4, h5⟩ := run_append_lies (P := P) w t ty L e i z 1 bytes ht hi hz hsize hby hzs (by decide) _ 0 [] (World.ownsRow_nil w L e 1) ad m c news (by omega) hnews h1 hm h63 hbytes hbase H hH
    have hT := tail_own h2
    refine ⟨g, 0, cap, w', hr, hT, h3, Or.inr ⟨?_, fun k hk => h3.block k hk (by simp [Value.ownBlock])⟩⟩
    rcases h4 with h6 | h6
    · simp [Value.ownBlock] at h6
    · omega
  · by_cases hroom : n + m ≤ cap
    · have there : ∀ j, j < m → (w.cell? ⟨g, off + n * i.size + j, none⟩).isSome = true := fun j hj => by
        rw [hsize, cell_of_row w g _ cur e (0, 0) hh, Array.getElem?_eq_getElem (by omega)]; rfl
      have hrun := run_append_room_cells (P := P) w t ty e i ht hi g off n cap ad m c news (by rw [hsize]; omega) hnews h1 hroom (fun j hj => there j (by omega)) (fun j _ => by simp [World.frozen?, hh])
      obtain ⟨⟨cur', hc', hs'⟩, k1, k2, k3, k4, k5⟩ := setCells_kept g e news (off + n * i.size) w cur hh
      refine ⟨g, off, cap, _, hrun, ⟨by rw [List.length_append, hown.1, hl], .inr ⟨g, off, cap, rfl, hg, ⟨cur', hc', by omega⟩, hroom, fun j u hu => ?_⟩⟩, ⟨k1, k2, k3, by omega, fun k _ hk => k5 k (fun e => hk (by rw [e]; rfl))⟩, .inl rfl⟩
      by_cases hj : j < n
      · rw [List.getElem?_append_left (by rw [hown.1]; exact hj)] at hu
        rw [World.cell?_setCells_out g news (off + n * i.size) w _ (fun _ _ => .inl (by rw [hsize]; show off + j < _; omega))]
        exact hall j u hu
      · rw [List.getElem?_append_right (by rw [hown.1]; omega), hown.1] at hu
        have hjl := (List.getElem?_eq_some_iff.1 hu).1
        have := World.cell?_setCells_in g news (off + n * i.size) w (fun j hj => there j (by omega)) (j - n) hjl
        rw [show off + n * i.size + (j - n) = off + j from by rw [hsize]; omega] at this
        rw [this, ← hu, List.getElem?_eq_getElem hjl]
    · obtain ⟨v', w', hrun, r1, r2⟩ := run_append_arg_grows (P := P) w t ty e i z 1 bytes ht hi hz hsize hby hzs (by decide) ⟨g, off, none⟩ n cap xs (by have := hown.1; omega) (fun j u hj => by
        rw [show (Addr.add ⟨g, off, none⟩ j) = ⟨g, off + j, none⟩ from by unfold Addr.add; split <;> simp_all]; exact hall j u hj) ad m c news (by omega) hnews (by omega) h63 hbytes
      obtain ⟨g', cap', rfl, hg', hlt⟩ := r1.form (by omega)
      have hT : Tail w' L e (.slice (some ⟨g', 0, none⟩) (n + m) cap') (n + m) (xs ++ news) := by
        have := tail_own r1
        refine ⟨this.1, this.2.imp id fun ⟨a, b, c, e1, e2, r⟩ => ⟨a, b, c, e1, by omega, r⟩⟩
      exact ⟨g', 0, cap', w', hrun, hT, ⟨r2.os, r2.tape, r2.output, r2.size, fun k hk _ => r2.block k hk (by simp)⟩, .inr ⟨by omega, fun k hk => r2.block k hk (by simp)⟩⟩
end
/-- A row, and what has grown out of it. -/
def twE (L : Nat) (T : TypeId) (v : Value) (n : Nat) (xs : List Value) (u : Value) (m : Nat) (ys : List Value) : Ent L where
  bl := fun k => v.ownBlock = some k ∨ u.ownBlock = some k
  P := fun w => Tail w L T v n xs ∧ Tail w L T u m ys
  fr := fun w w' h hP => ⟨tail_same hP.1 (fun g hg => h g (Or.inl hg)), tail_same hP.2 (fun g hg => h g (Or.inr hg))⟩
  lo := fun w hP g hg => by
    rcases hg with h | h
    · exact tail_lt hP.1 g h
    · exact tail_lt hP.2 g h
def Grow (v : Value) (n : Nat) (u : Value) (m : Nat) : Prop := (∃ ao c, v = .slice ao n c ∧ u = .slice ao m c) ∨ ∀ k, v.ownBlock = some k → u.ownBlock ≠ some k
theorem tw_app {L T t bytes : Nat} {w : World} {v u z : Value} {n m : Nat} {xs ys : List Value} (h : Tail w L T v n xs ∧ Tail w L T u m ys) (hg : Grow v n u m) (hxy : ∀ (j : Nat) (x : Value), xs[j]? = some x → ys[j]? = some x) (hnm : n ≤ m) (ht : Try.prog.underlying t = some (.slice T)) (hinfo : (Try.prog.info? T).map (fun i => (i.zero, i.size, i.bytes)) = some (some z, 1, bytes)) (hzs : z.cells.size = 1) (x : Value) (hx : x.oneCell' = true) (hn : (m + 1) * bytes ≤ 140737488355328) (hn2 : m ≤ 100000000) (hL : L ≤ w.heap.size) :
    ∃ u' w', (∀ ty, (Builtin.append_ #[t, t] ty #[u, .slice (some ⟨w.heap.size, 0, none⟩) 1 1]).run Try.prog (w.alloc (.cells #[x] T)) = .ok u' w') ∧ (Tail w' L T v n xs ∧ Tail w' L T u' (m + 1) (ys ++ [x])) ∧ Grow v n u' (m + 1) ∧ Chg (fun k => v.ownBlock = some k ∨ u.ownBlock = some k) w w' ∧ (∃ ao c, u' = .slice ao (m + 1) c) ∧ (∀ k, v.ownBlock = some k ∨ u'.ownBlock = some k → (v.ownBlock = some k ∨ u.ownBlock = some k) ∨ w.heap.size ≤ k) := by
  obtain ⟨i0, hi, hz, hs, hb⟩ := info_parts hinfo
  have hal := tail_alloc h.2 (.cells #[x] T)
  have hnew : ∀ j y, [x][j]? = some y → (w.alloc (.cells #[x] T)).cell? ((Addr.mk w.heap.size 0 none).add j) = some y := fun j y hy => by
    have hB : Blk (w.alloc (.cells #[x] T)) w.heap.size #[x] T := heap_alloc_new w _
    rw [addr_add, Nat.zero_add, hB.cell j]
    cases j with
    | zero => simpa using hy
    | succ j => simp at hy
  obtain ⟨g, off, cap, w', hr, h2, h3, h4⟩ := run_append_tail2 (P := Try.prog) (w.alloc (.cells #[x] T)) t t L T i0 z bytes ht hi hz hs hb hzs u m ys hal ⟨w.heap.size, 0, none⟩ 1 1 [x] rfl hnew (fun y hy => by rw [List.mem_singleton.1 hy]; exact hx) (by omega) (by unfold maxLen; omega) hn (by rw [World.size_alloc]; omega) _ rfl
  have hch : Chg (fun k => u.ownBlock = some k) w w' := by
    refine ⟨h3.os, h3.tape, h3.output, by have := h3.size; rw [World.size_alloc] at this; omega, fun k hk hne => ?_⟩
    exact (h3.block k (by rw [World.size_alloc]; omega) (fun e => hne e.symm)).trans (Below.heap_alloc _ _ _ hk)
  have hown : ∀ k, (Value.slice (some ⟨g, off, none⟩) (m + 1) cap).ownBlock = some k → g = k := fun k hk => by simpa [Value.ownBlock] using hk
  have hv : Tail w' L T v n xs ∧ Grow v n (.slice (some ⟨g, off, none⟩) (m + 1) cap) (m + 1) := by
    rcases h4 with h5 | ⟨h5, h6⟩
    · subst h5
      rcases hg with ⟨ao, c, e1, e2⟩ | hg
      · cases e2
        subst e1
        refine ⟨⟨h.1.1, Or.inr ?_⟩, Or.inl ⟨_, _, rfl, rfl⟩⟩
        rcases h2.2 with ⟨e1, e2⟩ | ⟨g', off', cap', e1, f1, f2, f3, f4⟩
        · cases e1
        · cases e1
          refine ⟨g, off, cap, rfl, f1, f2, by omega, fun j y hy => f4 j y ?_⟩
          have hlt := (List.getElem?_eq_some_iff.1 (hxy j y hy)).1
          rw [List.getElem?_append_left hlt]
          exact hxy j y hy
      · refine ⟨tail_same h.1 (fun k hk => hch.block k (tail_lt h.1 k hk).2 (hg k hk)), Or.inr fun k hk e => hg k hk ?_⟩
        rw [← hown k e]; rfl
    · rw [World.size_alloc] at h5
      refine ⟨tail_same h.1 (fun k hk => ?_), Or.inr fun k hk e => ?_⟩
      · have hlt := (tail_lt h.1 k hk).2
        exact (h6 k (by rw [World.size_alloc]; omega)).trans (Below.heap_alloc _ _ _ hlt)
      · have := hown k e
        have := (tail_lt h.1 k hk).2
        omega
  refine ⟨_, w', fun ty => hr, ⟨hv.1, h2⟩, hv.2, hch.mono (fun _ _ e => Or.inr e), ⟨_, _, rfl⟩, fun k hk => ?_⟩
  rcases hk with hk | hk
  · exact Or.inl (Or.inl hk)
  · have := hown k hk
    subst this
    rcases h4 with h5 | ⟨h5, _⟩
    · subst h5
      exact Or.inl (Or.inr rfl)
    · rw [World.size_alloc] at h5
      exact Or.inr (by omega)
/-- Rows, each with what has grown out of it. -/
def gE (L : Nat) (T : TypeId) (V : Nat → Value) (N : Nat → Nat) (X : Nat → List Value) (U : Nat → Value) (M : Nat → Nat) (Y : Nat → Value) (k : Nat) : Ent L := twE L T (V k) (N k) (X k) (U k) (N k + M k) (X k ++ List.replicate (M k) (Y k))
end Go.Proofs.Ytlajcaofpmjdlaa
