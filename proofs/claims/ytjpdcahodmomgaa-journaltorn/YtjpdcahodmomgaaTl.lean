import Derived.Test.YtjpdcahodmomgaaIx
import Derived.Deep.AppendLies
import Derived.ArgAppend
namespace Go.Proofs.Ytjpdcahodmomgaa
open Go.RowKit

theorem setCells_kept (b : Nat) (e : TypeId) : ∀ (vs : List Value) (o : Nat) (w : World) (cur : Array Value), w.heap[b]? = some (.cells cur e (0, 0)) →
    (∃ cur', (w.setCells b o vs).heap[b]? = some (.cells cur' e (0, 0)) ∧ cur'.size = cur.size) ∧ (w.setCells b o vs).os = w.os ∧ (w.setCells b o vs).tape = w.tape ∧ (w.setCells b o vs).output = w.output ∧
      (w.setCells b o vs).heap.size = w.heap.size ∧ ∀ k, k ≠ b → (w.setCells b o vs).heap[k]? = w.heap[k]?
  | [], _, _, cur, h => ⟨⟨cur, h, rfl⟩, rfl, rfl, rfl, rfl, fun _ _ => rfl⟩
  | v :: vs, o, w, cur, h => by
    have h1 : ∃ cur1, (w.setCell ⟨b, o, none⟩ v).heap[b]? = some (.cells cur1 e (0, 0)) ∧ cur1.size = cur.size := by
      refine ⟨_, by simp [World.setCell, Array.getElem?_modify, h]; rfl, by simp⟩
    obtain ⟨cur1, hc1, hs1⟩ := h1
    obtain ⟨⟨cur', hc', hs'⟩, h2, h3, h4, h5, h6⟩ := setCells_kept b e vs (o + 1) (w.setCell ⟨b, o, none⟩ v) cur1 hc1
    refine ⟨⟨cur', hc', hs'.trans hs1⟩, h2, h3, h4, h5.trans (by simp [World.setCell]), fun k hk => (h6 k hk).trans (Below.heap_setCell _ _ _ _ hk)⟩

/-- A slice of the law's own, from some place of its row on, to the row's end. -/
def Tail (w : World) (L : Nat) (e : TypeId) (v : Value) (n : Nat) (xs : List Value) : Prop :=
  xs.length = n ∧ ((v = .slice none 0 0 ∧ n = 0) ∨ ∃ g off cap, v = .slice (some ⟨g, off, none⟩) n cap ∧ L ≤ g ∧ (∃ cur : Array Value, w.heap[g]? = some (.cells cur e (0, 0)) ∧ cur.size = off + cap) ∧ n ≤ cap ∧ ∀ j u, xs[j]? = some u → w.cell? ⟨g, off + j, none⟩ = some u)

theorem tail_nil (w : World) (L : Nat) (e : TypeId) : Tail w L e (.slice none 0 0) 0 [] := ⟨rfl, .inl ⟨rfl, rfl⟩⟩
theorem tail_same {w w' : World} {L e k : Nat} {v : Value} {xs : List Value} (h : Tail w L e v k xs) (hb : ∀ g, v.ownBlock = some g → w'.heap[g]? = w.heap[g]?) : Tail w' L e v k xs := by
  refine ⟨h.1, ?_⟩
  rcases h.2 with hn | ⟨g, off, cap, rfl, hg, ⟨cur, hc, hs⟩, hn, hall⟩
  · exact .inl hn
  · have hh := hb g rfl
    exact .inr ⟨g, off, cap, rfl, hg, ⟨cur, hh.trans hc, hs⟩, hn, fun j u hu => (World.cell?_of_block (w := w) hh).trans (hall j u hu)⟩
theorem tail_blk {w : World} {L e k : Nat} {v : Value} {xs : List Value} (h : Tail w L e v k xs) {g : Nat} (hg : v.ownBlock = some g) : L ≤ g ∧ ∃ cur, w.heap[g]? = some (.cells cur e (0, 0)) := by
  rcases h.2 with ⟨rfl, _⟩ | ⟨g', off, cap, rfl, hb, ⟨cur, hh, _⟩, _⟩
  · simp [Value.ownBlock] at hg
  · simp [Value.ownBlock] at hg
    subst hg
    exact ⟨hb, cur, hh⟩
theorem tail_ne {w : World} {L e k : Nat} {v : Value} {xs : List Value} (h : Tail w L e v k xs) {g : Nat} {cur : Array Value} {t : Nat} (hg : w.heap[g]? = some (.cells cur t (0, 0))) (ht : t ≠ e) : v.ownBlock ≠ some g := by
  intro hh
  obtain ⟨_, cur', h'⟩ := tail_blk h hh
  rw [hg] at h'; simp at h'; exact ht h'.2
theorem tail_lt {w : World} {L e k : Nat} {v : Value} {xs : List Value} (h : Tail w L e v k xs) (g : Nat) (hg : v.ownBlock = some g) : L ≤ g ∧ g < w.heap.size := by
  obtain ⟨h1, cur, h2⟩ := tail_blk h hg
  exact ⟨h1, (Array.getElem?_eq_some_iff.1 h2).1⟩
theorem tail_form {w : World} {L e n : Nat} {v : Value} {xs : List Value} (h : Tail w L e v n xs) :
    ∃ ao cap, v = .slice ao n cap ∧ n ≤ cap ∧ (0 < n → ∃ g off, ao = some ⟨g, off, none⟩ ∧ ∀ j u, xs[j]? = some u → w.cell? ⟨g, off + j, none⟩ = some u) := by
  rcases h.2 with ⟨rfl, rfl⟩ | ⟨g, off, cap, rfl, _, _, hc, hall⟩
  · exact ⟨none, 0, rfl, Nat.le_refl _, fun h => by omega⟩
  · exact ⟨_, cap, rfl, hc, fun _ => ⟨g, off, rfl, hall⟩⟩
theorem tail_val {w : World} {L e n : Nat} {v : Value} {xs : List Value} (h : Tail w L e v n xs) : ∃ ao cap, v = .slice ao n cap := by
  obtain ⟨ao, cap, e, _⟩ := tail_form h
  exact ⟨ao, cap, e⟩
theorem tail_drew {w : World} {L e n : Nat} {v : Value} {xs : List Value} (h : Tail w L e v n xs) : Tail w.drew L e v n xs := tail_same h fun _ _ => rfl
theorem tail_alloc {w : World} {L e n : Nat} {v : Value} {xs : List Value} (h : Tail w L e v n xs) (o : Obj) : Tail (w.alloc o) L e v n xs := tail_same h fun g hg => Below.heap_alloc w _ g (tail_lt h g hg).2
theorem tail_own {w : World} {L e n : Nat} {v : Value} {xs : List Value} (h : w.ownsRow L e 1 v n xs) : Tail w L e v n xs := by
  refine ⟨by have := h.1; omega, ?_⟩
  rcases h.2 with hn | ⟨g, cap, cur, rfl, hg, hh, hc, _, hs, _⟩
  · exact .inl hn
  · refine .inr ⟨g, 0, cap, rfl, hg, ⟨cur, hh, by omega⟩, hc, fun j u hu => ?_⟩
    have := h.cells (g := g) rfl j u hu
    rw [show (Addr.add ⟨g, 0, none⟩ j) = ⟨g, 0 + j, none⟩ from by unfold Addr.add; split <;> simp_all] at this
    exact this

section
variable {P : Program} (w : World)
/-- 'append' onto such a slice. -/
theorem run_append_tail (t ty : TypeId) (L : Nat) (e : TypeId) (i : TypeInfo) (z : Value) (bytes : Nat) (ht : P.underlying t = some (.slice e)) (hi : P.info? e = some i) (hz : i.zero = some z)
    (hsize : i.size = 1) (hby : i.bytes = bytes) (hzs : z.cells.size = 1)
    (v : Value) (n : Nat) (xs : List Value) (hown : Tail w L e v n xs)
    (ad : Addr) (m c : Nat) (news : List Value) (hl : news.length = m) (hnews : ∀ j u, news[j]? = some u → w.cell? (ad.add j) = some u) (h1 : ∀ u ∈ news, u.oneCell' = true)
    (hm : 0 < m) (h63 : n + m ≤ maxLen) (hbytes : (n + m) * bytes ≤ 140737488355328) (hbase : L ≤ w.heap.size) (H : Nat) (hH : w.heap.size = H) :
    ∃ g off cap w', (Builtin.append_ #[t, t] ty #[v, .slice (some ad) m c]).run P w = .ok (.slice (some ⟨g, off, none⟩) (n + m) cap) w' ∧
      Tail w' L e (.slice (some ⟨g, off, none⟩) (n + m) cap) (n + m) (xs ++ news) ∧ w.grownBy w' v.ownBlock ∧ (v.ownBlock = some g ∨ H ≤ g) ∧ n + m ≤ cap := by
  rcases hown.2 with ⟨rfl, rfl⟩ | ⟨g, off, cap, rfl, hg, ⟨cur, hh, hs⟩, hc, hall⟩
  · obtain rfl : xs = [] := List.eq_nil_of_length_eq_zero hown.1
    obtain ⟨g, cap, w', hr, h2, h3, h4, h5⟩ := run_append_lies (P := P) w t ty L e i z 1 bytes ht hi hz hsize hby hzs (by decide) _ 0 [] (World.ownsRow_nil w L e 1) ad m c news (by omega) hnews h1 hm h63 hbytes hbase H hH
    have hT := tail_own h2
    refine ⟨g, 0, cap, w', hr, hT, h3, h4.imp id (fun e => by omega), ?_⟩
    obtain ⟨_, _, e', hle, _⟩ := tail_form hT
    cases e'
    exact hle
  · by_cases hroom : n + m ≤ cap
    · have there : ∀ j, j < m → (w.cell? ⟨g, off + n * i.size + j, none⟩).isSome = true := fun j hj => by
        rw [hsize, cell_of_row w g _ cur e (0, 0) hh, Array.getElem?_eq_getElem (by omega)]; rfl
      have hrun := run_append_room_cells (P := P) w t ty e i ht hi g off n cap ad m c news (by rw [hsize]; omega) hnews h1 hroom (fun j hj => there j (by omega)) (fun j _ => by simp [World.frozen?, hh])
      obtain ⟨⟨cur', hc', hs'⟩, k1, k2, k3, k4, k5⟩ := setCells_kept g e news (off + n * i.size) w cur hh
      refine ⟨g, off, cap, _, hrun, ⟨by rw [List.length_append, hown.1, hl], .inr ⟨g, off, cap, rfl, hg, ⟨cur', hc', by omega⟩, hroom, fun j u hu => ?_⟩⟩, ⟨k1, k2, k3, by omega, fun k _ hk => k5 k (fun e => hk (by rw [e]; rfl))⟩, .inl rfl, hroom⟩
      by_cases hj : j < n
      · rw [List.getElem?_append_left (by rw [hown.1]; exact hj)] at hu
        rw [World.cell?_setCells_out g news (off + n * i.size) w _ (fun _ _ => .inl (by rw [hsize]; show off + j < _; omega))]
        exact hall j u hu
      · rw [List.getElem?_append_right (by rw [hown.1]; omega), hown.1] at hu
        have hjl := (List.getElem?_eq_some_iff.1 hu).1
        have := World.cell?_setCells_in g news (off + n * i.size) w (fun j hj => there j (by omega)) (j - n) hjl
        rw [show off + n * i.size + (j - n) = off + j from by rw [hsize]; omega] at this
        rw [this, ← hu, List.getElem?_eq_getElem hjl]
    · obtain ⟨v', w', hrun, r1, r2⟩ := run_append_arg_grows (P := P) w t ty e i z 1 bytes ht hi hz hsize hby hzs (by decide) ⟨g, off, none⟩ n cap xs (by have := hown.1; omega) (fun j u hj => by
        rw [show (Addr.add ⟨g, off, none⟩ j) = ⟨g, off + j, none⟩ from by unfold Addr.add; split <;> simp_all]; exact hall j u hj) ad m c news (by omega) hnews (by omega) h63 hbytes
      obtain ⟨g', cap', rfl, hg', hlt⟩ := r1.form (by omega)
      have hT : Tail w' L e (.slice (some ⟨g', 0, none⟩) (n + m) cap') (n + m) (xs ++ news) := by
        have := tail_own r1
        refine ⟨this.1, this.2.imp id fun ⟨a, b, c, e1, e2, r⟩ => ⟨a, b, c, e1, by omega, r⟩⟩
      refine ⟨g', 0, cap', w', hrun, hT, ⟨r2.os, r2.tape, r2.output, r2.size, fun k hk _ => r2.block k hk (by simp)⟩, .inr (by omega), ?_⟩
      obtain ⟨_, _, e', hle, _⟩ := tail_form hT
      cases e'
      exact hle

theorem wp_append_tail {o : Oper} {a : Act} {K : Act → World → Prop} {Q : Exit → Act → World → Prop} (s x : Operand) (t : TypeId)
    (ho : o.op = .call { callee := .builtin .append, args := #[s, x], argTypes := #[t, t] })
    (L : Nat) (e : TypeId) (i : TypeInfo) (z : Value) (bytes : Nat) (ht : P.underlying t = some (.slice e)) (hi : P.info? e = some i) (hz : i.zero = some z)
    (hsize : i.size = 1) (hby : i.bytes = bytes) (hzs : z.cells.size = 1)
    (v : Value) (n : Nat) (xs : List Value) (hs : a.eval s = v) (hown : Tail w L e v n xs)
    (ad : Addr) (m c : Nat) (news : List Value) (hx : a.eval x = .slice (some ad) m c) (hl : news.length = m) (hnews : ∀ j u, news[j]? = some u → w.cell? (ad.add j) = some u) (h1 : ∀ u ∈ news, u.oneCell' = true)
    (hm : 0 < m) (h63 : n + m ≤ maxLen) (hbytes : (n + m) * bytes ≤ 140737488355328) (hbase : L ≤ w.heap.size) (H : Nat) (hH : w.heap.size = H)
    (h : ∀ g off cap w', Tail w' L e (.slice (some ⟨g, off, none⟩) (n + m) cap) (n + m) (xs ++ news) → w.grownBy w' v.ownBlock → (v.ownBlock = some g ∨ H ≤ g) → n + m ≤ cap → K (a.put o.dst (.slice (some ⟨g, off, none⟩) (n + m) cap)) w') : o.wp P a w K Q := by
  obtain ⟨g, off, cap, w', hr, h2, h3, h4, h5⟩ := run_append_tail (P := P) w t o.type L e i z bytes ht hi hz hsize hby hzs v n xs hown ad m c news hl hnews h1 hm h63 hbytes hbase H hH
  unfold Oper.wp execOp
  simp only [ho, resolve, invoke, builtin, Sem.run_bind, Sem.run_pure, Result.andThen_ok, List.map_toArray, List.map_cons, List.map_nil, hs, hx, hr]
  exact h g off cap w' h2 h3 h4 h5

theorem wpList_append_tail {ops : Array Oper} {rest : List Oper} {o : Oper} {a : Act} {Q : Exit → Act → World → Prop} (hgd : o.guard = none) (s x : Operand) (t : TypeId)
    (ho : o.op = .call { callee := .builtin .append, args := #[s, x], argTypes := #[t, t] })
    (L : Nat) (e : TypeId) (i : TypeInfo) (z : Value) (bytes : Nat) (ht : P.underlying t = some (.slice e)) (hi : P.info? e = some i) (hz : i.zero = some z)
    (hsize : i.size = 1) (hby : i.bytes = bytes) (hzs : z.cells.size = 1)
    (v : Value) (n : Nat) (xs : List Value) (hs : a.eval s = v) (hown : Tail w L e v n xs)
    (ad : Addr) (m c : Nat) (news : List Value) (hx : a.eval x = .slice (some ad) m c) (hl : news.length = m) (hnews : ∀ j u, news[j]? = some u → w.cell? (ad.add j) = some u) (h1 : ∀ u ∈ news, u.oneCell' = true)
    (hm : 0 < m) (h63 : n + m ≤ maxLen) (hbytes : (n + m) * bytes ≤ 140737488355328) (hbase : L ≤ w.heap.size) (H : Nat) (hH : w.heap.size = H)
    (h : ∀ g off cap w', Tail w' L e (.slice (some ⟨g, off, none⟩) (n + m) cap) (n + m) (xs ++ news) → w.grownBy w' v.ownBlock → (v.ownBlock = some g ∨ H ≤ g) → n + m ≤ cap → wpList P ops Q rest (a.put o.dst (.slice (some ⟨g, off, none⟩) (n + m) cap)) w') : wpList P ops Q (o :: rest) a w :=
  wpList_plain hgd fun _ hK => wp_append_tail w s x t ho L e i z bytes ht hi hz hsize hby hzs v n xs hs hown ad m c news hx hl hnews h1 hm h63 hbytes hbase H hH fun g off cap w' h2 h3 h4 h5 => hK _ _ (h g off cap w' h2 h3 h4 h5)

theorem step_append_tail {ops : Array Oper} {o : Oper} {a : Act} {K : Act → World → Prop} {Q : Exit → Act → World → Prop} {E : Prop} (hgd : o.guard = none) (s x : Operand) (t : TypeId)
    (ho : o.op = .call { callee := .builtin .append, args := #[s, x], argTypes := #[t, t] })
    (L : Nat) (e : TypeId) (i : TypeInfo) (z : Value) (bytes : Nat) (ht : P.underlying t = some (.slice e)) (hi : P.info? e = some i) (hz : i.zero = some z)
    (hsize : i.size = 1) (hby : i.bytes = bytes) (hzs : z.cells.size = 1)
    (v : Value) (n : Nat) (xs : List Value) (hs : a.eval s = v) (hown : Tail w L e v n xs)
    (ad : Addr) (m c : Nat) (news : List Value) (hx : a.eval x = .slice (some ad) m c) (hl : news.length = m) (hnews : ∀ j u, news[j]? = some u → w.cell? (ad.add j) = some u) (h1 : ∀ u ∈ news, u.oneCell' = true)
    (hm : 0 < m) (h63 : n + m ≤ maxLen) (hbytes : (n + m) * bytes ≤ 140737488355328) (hbase : L ≤ w.heap.size) (H : Nat) (hH : w.heap.size = H)
    (h : ∀ g off cap w', Tail w' L e (.slice (some ⟨g, off, none⟩) (n + m) cap) (n + m) (xs ++ news) → w.grownBy w' v.ownBlock → (v.ownBlock = some g ∨ H ≤ g) → n + m ≤ cap → K (a.put o.dst (.slice (some ⟨g, off, none⟩) (n + m) cap)) w') :
    if Region.wanted o (yielded ops a.tmps) = true then Oper.wp P o a w K Q else E := by
  have hw : Region.wanted o (yielded ops a.tmps) = true := by simp [Region.wanted, hgd]
  rw [if_pos hw]
  exact wp_append_tail w s x t ho L e i z bytes ht hi hz hsize hby hzs v n xs hs hown ad m c news hx hl hnews h1 hm h63 hbytes hbase H hH h
end
end Go.Proofs.Ytjpdcahodmomgaa
