import Derived.Test.YtcnokgphioigoaaJB
import Derived.Deep.AppendLies
import Derived.ArgAppend
import Derived.Test.YtcnokgphioigoaaJA
namespace Go.Proofs.Ytcnokgphioigoaa
open Go.RowKit

theorem setCells_kept (b : Nat) (e : TypeId) : ∀ (vs : List Value) (o : Nat) (w : World) (cur : Array Value), w.heap[b]? = some (.cells cur e (0, 0)) →
    (∃ cur', (w.setCells b o vs).heap[b]? = some (.cells cur' e (0, 0)) ∧ cur'.size = cur.size) ∧ (w.setCells b o vs).os = w.os ∧ (w.setCells b o vs).tape = w.tape ∧ (w.setCells b o vs).output = w.output ∧
      (w.setCells b o vs).heap.size = w.heap.size ∧ ∀ k, k ≠ b → (w.setCells b o vs).heap[k]? = w.heap[k]?
  | [], _, _, cur, h => ⟨⟨cur, h, rfl⟩, rfl, rfl, rfl, rfl, fun _ _ => rfl⟩
  | v :: vs, o, w, cur, h => by
    have h1 : ∃ cur1, (w.setCell ⟨b, o, none⟩ v).heap[b]? = some (.cells cur1 e (0, 0)) ∧ cur1.size = cur.size := by
      refine ⟨_, by simp [World.setCell, Array.getElem?_modify, h]; rfl, by simp⟩
    obtain ⟨cur1, hc1, hs1⟩ := h1
    obtain ⟨⟨cur', hc', hs'⟩, h2, h3, h4, h5, h6⟩ := setCells_kept b e vs (o + 1) (w.setCell ⟨b, o, none⟩ v) cur1 hc1
    refine ⟨⟨cur', hc', hs'.trans hs1⟩, h2, h3, h4, h5.trans (by simp [World.setCell]), fun k hk => (h6 k hk).trans (Below.heap_setCell _ _ _ _ hk)⟩

/-- A slice of the law's own, from some place of its row on, to the row's end. -/
def Tail (w : World) (L : Nat) (e : TypeId) (v : Value) (n : Nat) (xs : List Value) : Prop :=
  xs.length = n ∧ ((v = .slice none 0 0 ∧ n = 0) ∨ ∃ g off cap, v = .slice (some ⟨g, off, none⟩) n cap ∧ L ≤ g ∧ (∃ cur : Array Value, w.heap[g]? = some (.cells cur e (0, 0)) ∧ cur.size = off + cap) ∧ n ≤ cap ∧ ∀ j u, xs[j]? = some u → w.cell? ⟨g, off + j, none⟩ = some u)

theorem tail_nil (w : World) (L : Nat) (e : TypeId) : Tail w L e (.slice none 0 0) 0 [] := ⟨rfl, .inl ⟨rfl, rfl⟩⟩
theorem tail_same {w w' : World} {L e k : Nat} {v : Value} {xs : List Value} (h : Tail w L e v k xs) (hb : ∀ g, v.ownBlock = some g → w'.heap[g]? = w.heap[g]?) : Tail w' L e v k xs := by
  refine ⟨h.1, ?_⟩
  rcases h.2 with hn | ⟨g, off, cap, rfl, hg, ⟨cur, hc, hs⟩, hn, hall⟩
  · exact .inl hn
  · have hh := hb g rfl
    exact .inr ⟨g, off, cap, rfl, hg, ⟨cur, hh.trans hc, hs⟩, hn, fun j u hu => (World.cell?_of_block (w := w) hh).trans (hall j u hu)⟩
theorem tail_blk {w : World} {L e k : Nat} {v : Value} {xs : List Value} (h : Tail w L e v k xs) {g : Nat} (hg : v.ownBlock = some g) : L ≤ g ∧ ∃ cur, w.heap[g]? = some (.cells cur e (0, 0)) := by
  rcases h.2 with ⟨rfl, _⟩ | ⟨g', off, cap, rfl, hb, ⟨cur, hh, _⟩, _⟩
  · simp [Value.ownBlock] at hg
  · simp [Value.ownBlock] at hg
    subst hg
    exact ⟨hb, cur, hh⟩
theorem tail_ne {w : World} {L e k : Nat} {v : Value} {xs : List Value} (h : Tail w L e v k xs) {g : Nat} {cur : Array Value} {t : Nat} (hg : w.heap[g]? = some (.cells cur t (0, 0))) (ht : t ≠ e) : v.ownBlock ≠ some g := by
  intro hh
  obtain ⟨_, cur', h'⟩ := tail_blk h hh
  rw [hg] at h'; simp at h'; exact ht h'.2
theorem tail_lt {w : World} {L e k : Nat} {v : Value} {xs : List Value} (h : Tail w L e v k xs) (g : Nat) (hg : v.ownBlock = some g) : L ≤ g ∧ g < w.heap.size := by
  obtain ⟨h1, cur, h2⟩ := tail_blk h hg
  exact ⟨h1, (Array.getElem?_eq_some_iff.1 h2).1⟩
theorem tail_form {w : World} {L e n : Nat} {v : Value} {xs : List Value} (h : Tail w L e v n xs) :
    ∃ ao cap, v = .slice ao n cap ∧ n ≤ cap ∧ (0 < n → ∃ g off, ao = some ⟨g, off, none⟩ ∧ ∀ j u, xs[j]? = some u → w.cell? ⟨g, off + j, none⟩ = some u) := by
  rcases h.2 with ⟨rfl, rfl⟩ | ⟨g, off, cap, rfl, _, _, hc, hall⟩
  · exact ⟨none, 0, rfl, Nat.le_refl _, fun h => by omega⟩
  · exact ⟨_, cap, rfl, hc, fun _ => ⟨g, off, rfl, hall⟩⟩
theorem tail_val {w : World} {L e n : Nat} {v : Value} {xs : List Value} (h : Tail w L e v n xs) : ∃ ao cap, v = .slice ao n cap := by
  obtain ⟨ao, cap, e, _⟩ := tail_form h
  exact ⟨ao, cap, e⟩
theorem tail_drew {w : World} {L e n : Nat} {v : Value} {xs : List Value} (h : Tail w L e v n xs) : Tail w.drew L e v n xs := tail_same h fun _ _ => rfl
theorem tail_alloc {w : World} {L e n : Nat} {v : Value} {xs : List Value} (h : Tail w L e v n xs) (o : Obj) : Tail (w.alloc o) L e v n xs := tail_same h fun g hg => Below.heap_alloc w _ g (tail_lt h g hg).2
theorem tail_own {w : World} {L e n : Nat} {v : Value} {xs : List Value} (h : w.ownsRow L e 1 v n xs) : Tail w L e v n xs := by
  refine ⟨by have := h.1; omega, ?_⟩
  rcases h.2 with hn | ⟨g, cap, cur, rfl, hg, hh, hc, _, hs, _⟩
  · exact .inl hn
  · refine .inr ⟨g, 0, cap, rfl, hg, ⟨cur, hh, by omega⟩, hc, fun j u hu => ?_⟩
    have := h.cells (g := g) rfl j u hu
    rw [show (Addr.add ⟨g, 0, none⟩ j) = ⟨g, 0 + j, none⟩ from by unfold Addr.add; split <;> simp_all] at this
    exact this

section
variable {P : Program} (w : World)
/-- 'append' onto such a slice. -/
theorem run_append_tail (t ty : TypeId) (L : Nat) (e : TypeId) (i : TypeInfo) (z : Value) (bytes : Nat) (ht : P.underlying t = some (.slice e)) (hi : P.info? e = some i) (hz : i.zero = some z)
    (hsize : i.size = 1) (hby : i.bytes = bytes) (hzs : z.cells.size = 1)
    (v : Value) (n : Nat) (xs : List Value) (hown : Tail w L e v n xs)
    (ad : Addr) (m c : Nat) (news : List Value) (hl : news.length = m) (hnews : ∀ j u, news[j]? = some u → w.cell? (ad.add j) = some u) (h1 : ∀ u ∈ news, u.oneCell' = true)
    (hm : 0 < m) (h63 : n + m ≤ maxLen) (hbytes : (n + m) * bytes ≤ 140737488355328) (hbase : L ≤ w.heap.size) (H : Nat) (hH : w.heap.size = H) :
    ∃ g off cap w', (Builtin.append_ #[t, t] ty #[v, .slice (some ad) m c]).run P w = .ok (.slice (some ⟨g, off, none⟩) (n + m) cap) w' ∧
      Tail w' L e (.slice (some ⟨g, off, none⟩) (n + m) cap) (n + m) (xs ++ news) ∧ w.grownBy w' v.ownBlock ∧ (v.ownBlock = some g ∨ H ≤ g) ∧ n + m ≤ cap := by
  rcases hown.2 with ⟨rfl, rfl⟩ | ⟨g, off, cap, rfl, hg, ⟨cur, hh, hs⟩, hc, hall⟩
  · obtain rfl : xs = [] := List.eq_nil_of_length_eq_zero hown.1
    obtain ⟨g, cap, w', hr, h2, h3, h4, h5⟩ := run_append_lies (P := P) w t ty L e i z 1 bytes ht hi hz hsize hby hzs (by decide) _ 0 [] (World.ownsRow_nil w L e 1) ad m c news (by omega) hnews h1 hm h63 hbytes hbase H hH
    have hT := tail_own h2
    refine ⟨g, 0, cap, w', hr, hT, h3, h4.imp id (fun e => by omega), ?_⟩
    obtain ⟨_, _, e', hle, _⟩ := tail_form hT
    cases e'
    exact hle
  · by_cases hroom : n + m ≤ cap
    · have there : ∀ j, j < m → (w.cell? ⟨g, off + n * i.size + j, none⟩).isSome = true := fun j hj => by
        rw [hsize, cell_of_row w g _ cur e (0, 0) hh, Array.getElem?_eq_getElem (by omega)]; rfl
      have hrun := run_append_room_cells (P := P) w t ty e i ht hi g off n cap ad m c news (by rw [hsize]; omega) hnews h1 hroom (fun j hj => there j (by omega)) (fun j _ => by simp [World.frozen?, hh])
      obtain ⟨⟨cur', hc', hs'⟩, k1, k2, k3, k4, k5⟩ := setCells_kept g e news (off + n * i.size) w cur hh
      refine ⟨g, off, cap, _, hrun, ⟨by rw [List.length_append, hown.1, hl], .inr ⟨g, off, cap, rfl, hg, ⟨cur', hc', by omega⟩, hroom, fun j u hu => ?_⟩⟩, ⟨k1, k2, k3, by omega, fun k _ hk => k5 k (fun e => hk (by rw [e]; rfl))⟩, .inl rfl, hroom⟩
      by_cases hj : j < n
      · rw [List.getElem?_append_left (by rw [hown.1]; exact hj)] at hu
        rw [World.cell?_setCells_out g news (off + n * i.size) w _ (fun _ _ => .inl (by rw [hsize]; show off + j < _; omega))]
        exact hall j u hu
      · rw [List.getElem?_append_right (by rw [hown.1]; omega), hown.1] at hu
        have hjl := (List.getElem?_eq_some_iff.1 hu).1
        have := World.cell?_setCells_in g news (off + n * i.size) w (fun j hj => there j (by omega)) (j - n) hjl
        rw [show off + n * i.size + (j - n) = off + j from by rw [hsize]; omega] at this
        rw [this, ← hu, List.getElem?_eq_getElem hjl]
    · obtain ⟨v', w', hrun, r1, r2⟩ := run_append_arg_grows (P := P) w t ty e i z 1 bytes ht hi hz hsize hby hzs (by decide) ⟨g, off, none⟩ n cap xs (by have := hown.1; omega) (fun j u hj => by
        rw [show (Addr.add ⟨g, off, none⟩ j) = ⟨g, off + j, none⟩ from by unfold Addr.add; split <;> simp_all]; exact hall j u hj) ad m c news (by omega) hnews (by omega) h63 hbytes
      obtain ⟨g', cap', rfl, hg', hlt⟩ := r1.form (by omega)
      have hT : Tail w' L e (.slice (some ⟨g', 0, none⟩) (n + m) cap') (n + m) (xs ++ news) := by
        have := tail_own r1
        refine ⟨this.1, this.2.imp id fun ⟨a, b, c, e1, e2, r⟩ => ⟨a, b, c, e1, by omega, r⟩⟩
      refine ⟨g', 0, cap', w', hrun, hT, ⟨r2.os, r2.tape, r2.output, r2.size, fun k hk _ => r2.block k hk (by simp)⟩, .inr (by omega), ?_⟩
      obtain ⟨_, _, e', hle, _⟩ := tail_form hT
      cases e'
      exact hle

theorem wp_append_tail {o : Oper} {a : Act} {K : Act → World → Prop} {Q : Exit → Act → World → Prop} (s x : Operand) (t : TypeId)
    (ho : o.op = .call { callee := .builtin .append, args := #[s, x], argTypes := #[t, t] })
    (L : Nat) (e : TypeId) (i : TypeInfo) (z : Value) (bytes : Nat) (ht : P.underlying t = some (.slice e)) (hi : P.info? e = some i) (hz : i.zero = some z)
    (hsize : i.size = 1) (hby : i.bytes = bytes) (hzs : z.cells.size = 1)
    (v : Value) (n : Nat) (xs : List Value) (hs : a.eval s = v) (hown : Tail w L e v n xs)
    (ad : Addr) (m c : Nat) (news : List Value) (hx : a.eval x = .slice (some ad) m c) (hl : news.length = m) (hnews : ∀ j u, news[j]? = some u → w.cell? (ad.add j) = some u) (h1 : ∀ u ∈ news, u.oneCell' = true)
    (hm : 0 < m) (h63 : n + m ≤ maxLen) (hbytes : (n + m) * bytes ≤ 140737488355328) (hbase : L ≤ w.heap.size) (H : Nat) (hH : w.heap.size = H)
    (h : ∀ g off cap w', Tail w' L e (.slice (some ⟨g, off, none⟩) (n + m) cap) (n + m) (xs ++ news) → w.grownBy w' v.ownBlock → (v.ownBlock = some g ∨ H ≤ g) → n + m ≤ cap → K (a.put o.dst (.slice (some ⟨g, off, none⟩) (n + m) cap)) w') : o.wp P a w K Q := by
  obtain ⟨g, off, cap, w', hr, h2, h3, h4, h5⟩ := run_append_tail (P := P) w t o.type L e i z bytes ht hi hz hsize hby hzs v n xs hown ad m c news hl hnews h1 hm h63 hbytes hbase H hH
  unfold Oper.wp execOp
  simp only [ho, resolve, invoke, builtin, Sem.run_bind, Sem.run_pure, Result.andThen_ok, List.map_toArray, List.map_cons, List.map_nil, hs, hx, hr]
  exact h g off cap w' h2 h3 h4 h5

theorem wpList_append_tail {ops : Array Oper} {rest : List Oper} {o : Oper} {a : Act} {Q : Exit → Act → World → Prop} (hgd : o.guard = none) (s x : Operand) (t : TypeId)
    (ho : o.op = .call { callee := .builtin .append, args := #[s, x], argTypes := #[t, t] })
    (L : Nat) (e : TypeId) (i : TypeInfo) (z : Value) (bytes : Nat) (ht : P.underlying t = some (.slice e)) (hi : P.info? e = some i) (hz : i.zero = some z)
    (hsize : i.size = 1) (hby : i.bytes = bytes) (hzs : z.cells.size = 1)
    (v : Value) (n : Nat) (xs : List Value) (hs : a.eval s = v) (hown : Tail w L e v n xs)
    (ad : Addr) (m c : Nat) (news : List Value) (hx : a.eval x = .slice (some ad) m c) (hl : news.length = m) (hnews : ∀ j u, news[j]? = some u → w.cell? (ad.add j) = some u) (h1 : ∀ u ∈ news, u.oneCell' = true)
    (hm : 0 < m) (h63 : n + m ≤ maxLen) (hbytes : (n + m) * bytes ≤ 140737488355328) (hbase : L ≤ w.heap.size) (H : Nat) (hH : w.heap.size = H)
    (h : ∀ g off cap w', Tail w' L e (.slice (some ⟨g, off, none⟩) (n + m) cap) (n + m) (xs ++ news) → w.grownBy w' v.ownBlock → (v.ownBlock = some g ∨ H ≤ g) → n + m ≤ cap → wpList P ops Q rest (a.put o.dst (.slice (some ⟨g, off, none⟩) (n + m) cap)) w') : wpList P ops Q (o :: rest) a w :=
  wpList_plain hgd fun _ hK => wp_append_tail w s x t ho L e i z bytes ht hi hz hsize hby hzs v n xs hs hown ad m c news hx hl hnews h1 hm h63 hbytes hbase H hH fun g off cap w' h2 h3 h4 h5 => hK _ _ (h g off cap w' h2 h3 h4 h5)

theorem step_append_tail {ops : Array Oper} {o : Oper} {a : Act} {K : Act → World → Prop} {Q : Exit → Act → World → Prop} {E : Prop} (hgd : o.guard = none) (s x : Operand) (t : TypeId)
    (ho : o.op = .call { callee := .builtin .append, args := #[s, x], argTypes := #[t, t] })
    (L : Nat) (e : TypeId) (i : TypeInfo) (z : Value) (bytes : Nat) (ht : P.underlying t = some (.slice e)) (hi : P.info? e = some i) (hz : i.zero = some z)
    (hsize : i.size = 1) (hby : i.bytes = bytes) (hzs : z.cells.size = 1)
    (v : Value) (n : Nat) (xs : List Value) (hs : a.eval s = v) (hown : Tail w L e v n xs)
    (ad : Addr) (m c : Nat) (news : List Value) (hx : a.eval x = .slice (some ad) m c) (hl : news.length = m) (hnews : ∀ j u, news[j]? = some u → w.cell? (ad.add j) = some u) (h1 : ∀ u ∈ news, u.oneCell' = true)
    (hm : 0 < m) (h63 : n + m ≤ maxLen) (hbytes : (n + m) * bytes ≤ 140737488355328) (hbase : L ≤ w.heap.size) (H : Nat) (hH : w.heap.size = H)
    (h : ∀ g off cap w', Tail w' L e (.slice (some ⟨g, off, none⟩) (n + m) cap) (n + m) (xs ++ news) → w.grownBy w' v.ownBlock → (v.ownBlock = some g ∨ H ≤ g) → n + m ≤ cap → K (a.put o.dst (.slice (some ⟨g, off, none⟩) (n + m) cap)) w') :
    if Region.wanted o (yielded ops a.tmps) = true then Oper.wp P o a w K Q else E := by
  have hw : Region.wanted o (yielded ops a.tmps) = true := by simp [Region.wanted, hgd]
  rw [if_pos hw]
  exact wp_append_tail w s x t ho L e i z bytes ht hi hz hsize hby hzs v n xs hs hown ad m c news hx hl hnews h1 hm h63 hbytes hbase H hH h
end
end Go.Proofs.Ytcnokgphioigoaa
namespace Go.Proofs.Ytcnokgphioigoaa
open Go.RowKit Go.PlainAid
set_option linter.unusedVariables false
set_option linter.unusedSimpArgs false
/-- A part of memory, with what is known of it. -/
structure Ent (L : Nat) where
  bl : Nat → Prop
  P : World → Prop
  fr : ∀ w w' : World, (∀ g, bl g → w'.heap[g]? = w.heap[g]?) → P w → P w'
  lo : ∀ w : World, P w → ∀ g, bl g → L ≤ g ∧ g < w.heap.size
def Ent.Dj {L : Nat} (e e' : Ent L) : Prop := ∀ k, e.bl k → ¬ e'.bl k
theorem Ent.Dj.symm {L : Nat} {e e' : Ent L} (h : e.Dj e') : e'.Dj e := fun k h1 h2 => h k h2 h1
def has {L : Nat} (es : List (Ent L)) (k : Nat) : Prop := ∃ e ∈ es, e.bl k
structure Held {L : Nat} (es : List (Ent L)) (w : World) : Prop where
  all : ∀ e ∈ es, e.P w
  dj : es.Pairwise Ent.Dj
section
variable {L : Nat} {es es' R : List (Ent L)} {e e' : Ent L} {w w' : World} {A : Nat → Prop}
theorem Held.typ (h : Held es w) {k : Nat} (hk : has es k) : L ≤ k ∧ k < w.heap.size := by
  obtain ⟨e, he, hv⟩ := hk
  exact e.lo w (h.all e he) k hv
theorem Held.keep (h : Held es w) (hk : ∀ k, has es k → w'.heap[k]? = w.heap[k]?) : Held es w' := ⟨fun e he => e.fr w w' (fun g hg => hk g ⟨e, he, hg⟩) (h.all e he), h.dj⟩
theorem Held.chg (h : Held es w) (hc : Chg A w w') (hA : ∀ k, has es k → ¬ A k) : Held es w' := h.keep fun k hk => hc.block k (h.typ hk).2 (hA k hk)
theorem Held.more (h : Held es w) (hb : Below w.heap.size w w') : Held es w' := h.keep fun k hk => hb.block k (h.typ hk).2
theorem Held.perm (h : Held es w) (hp : es.Perm es') : Held es' w := ⟨fun e he => h.all e (hp.mem_iff.2 he), (hp.pairwise_iff (fun h => h.symm)).1 h.dj⟩
theorem has_perm (hp : es.Perm es') {k : Nat} : has es k ↔ has es' k := ⟨fun ⟨e, he, hv⟩ => ⟨e, hp.mem_iff.1 he, hv⟩, fun ⟨e, he, hv⟩ => ⟨e, hp.mem_iff.2 he, hv⟩⟩
theorem Held.drop (h : Held (e :: R) w) : Held R w := ⟨fun x hx => h.all x (List.mem_cons_of_mem _ hx), (List.pairwise_cons.1 h.dj).2⟩
theorem Held.apart (h : Held (e :: R) w) {k : Nat} (hk : e.bl k) : ¬ has R k := fun ⟨x, hx, hv⟩ => (List.pairwise_cons.1 h.dj).1 x hx k hk hv
theorem Held.add (h : Held R w) (hP : e.P w) (hn : ∀ k, e.bl k → ¬ has R k) : Held (e :: R) w := by
  refine ⟨fun x hx => ?_, List.pairwise_cons.2 ⟨fun x hx k h1 h2 => hn k h1 ⟨x, hx, h2⟩, h.dj⟩⟩
  rcases List.mem_cons.1 hx with rfl | hx
  · exact hP
  · exact h.all x hx
theorem Held.swap (h : Held (e :: R) w) (hc : Chg (fun k => e.bl k) w w') (hP : e'.P w') (hu : ∀ k, e'.bl k → e.bl k ∨ w.heap.size ≤ k) : Held (e' :: R) w' := by
  have hR := h.drop
  refine (hR.chg hc (fun k hk e => h.apart e hk)).add hP fun k hk => ?_
  rcases hu k hk with h1 | h1
  · exact h.apart h1
  · intro h2
    have := (hR.typ h2).2
    omega
theorem has_cons {k : Nat} : has (e :: R) k ↔ e.bl k ∨ has R k := by
  constructor
  · rintro ⟨x, hx, hv⟩
    rcases List.mem_cons.1 hx with rfl | hx
    · exact Or.inl hv
    · exact Or.inr ⟨x, hx, hv⟩
  · rintro (h | ⟨x, hx, hv⟩)
    · exact ⟨e, List.mem_cons_self .., h⟩
    · exact ⟨x, List.mem_cons_of_mem _ hx, hv⟩
end
/-- What is held within a call that began at w0 with the blocks own0. -/
structure AS {L : Nat} (own0 : Nat → Prop) (w0 : World) (es : List (Ent L)) (w : World) : Prop where
  h : Held es w
  chg : Chg own0 w0 w
  new : ∀ k, has es k → own0 k ∨ w0.heap.size ≤ k
section
variable {L : Nat} {own0 : Nat → Prop} {w0 : World} {es es' R : List (Ent L)} {e e' : Ent L} {w w' : World} {A : Nat → Prop}
theorem AS.perm (h : AS own0 w0 es w) (hp : es.Perm es') : AS own0 w0 es' w := ⟨h.h.perm hp, h.chg, fun k hk => h.new k ((has_perm hp).2 hk)⟩
theorem AS.more (h : AS own0 w0 es w) (hb : Below w.heap.size w w') : AS own0 w0 es w' := ⟨h.h.more hb, h.chg.trans (Chg.ofBelow (fun _ => False) hb) (fun _ _ e => e.elim), h.new⟩
theorem AS.swap (h : AS own0 w0 (e :: R) w) (hc : Chg (fun k => e.bl k) w w') (hP : e'.P w') (hu : ∀ k, e'.bl k → e.bl k ∨ w.heap.size ≤ k) : AS own0 w0 (e' :: R) w' := by
  refine ⟨h.h.swap hc hP hu, h.chg.trans hc (fun j hj hb => ?_), fun k hk => ?_⟩
  · rcases h.new j (has_cons.2 (Or.inl hb)) with h1 | h1
    · exact h1
    · omega
  · rcases has_cons.1 hk with h1 | h1
    · rcases hu k h1 with h2 | h2
      · exact h.new k (has_cons.2 (Or.inl h2))
      · exact Or.inr (Nat.le_trans h.chg.size h2)
    · exact h.new k (has_cons.2 (Or.inr h1))
theorem AS.drop (h : AS own0 w0 (e :: R) w) : AS own0 w0 R w := ⟨h.h.drop, h.chg, fun k hk => h.new k (has_cons.2 (Or.inr hk))⟩
/-- Something new, that lies above where another world ended. -/
theorem AS.fresh (h : AS own0 w0 R w) (hb : Below w.heap.size w w') (hP : e.P w') (hn : ∀ k, e.bl k → w.heap.size ≤ k) : AS own0 w0 (e :: R) w' := by
  have h1 := h.more hb
  refine ⟨h1.h.add hP (fun k hk hh => ?_), h1.chg, fun k hk => ?_⟩
  · have := (h.h.typ hh).2
    have := hn k hk
    omega
  · rcases has_cons.1 hk with h2 | h2
    · exact Or.inr (Nat.le_trans h.chg.size (hn k h2))
    · exact h.new k h2
theorem AS.head (h : AS own0 w0 (e :: R) w) : e.P w := h.h.all e (List.mem_cons_self ..)
theorem AS.get (h : AS own0 w0 es w) (he : e ∈ es) : e.P w := h.h.all e he
end
def rowE (L : Nat) (T : TypeId) (sz : Nat) (v : Value) (n : Nat) (xs : List Value) : Ent L where
  bl := fun k => v.ownBlock = some k
  P := fun w => w.ownsRow L T sz v n xs
  fr := fun w w' h hP => ownsRow_same hP h
  lo := fun w hP g hg => ownsRow_lt hP hg
def boxE (L pb : Nat) (C : Array Value) (T : TypeId) : Ent L where
  bl := fun k => k = pb
  P := fun w => Blk w pb C T ∧ L ≤ pb
  fr := fun w w' h hP => ⟨(h pb rfl).trans hP.1, hP.2⟩
  lo := fun w hP g hg => by subst hg; exact ⟨hP.2, hP.1.lt⟩
section
variable {L : Nat} {es pre post R : List (Ent L)} {e e' : Ent L} {w w' : World}
theorem Held.at (h : Held (pre ++ e :: post) w) (hc : Chg (fun k => e.bl k) w w') (hP : e'.P w') (hu : ∀ k, e'.bl k → e.bl k ∨ w.heap.size ≤ k) : Held (pre ++ e' :: post) w' :=
  ((h.perm List.perm_middle).swap hc hP hu).perm List.perm_middle.symm
theorem Held.get (h : Held es w) (he : e ∈ es) : e.P w := h.all e he
theorem Held.fresh (h : Held R w) (hb : Below w.heap.size w w') (hP : e.P w') (hn : ∀ k, e.bl k → w.heap.size ≤ k) : Held (e :: R) w' :=
  (h.more hb).add hP (fun k hk hh => by
    have := (h.typ hh).2
    have := hn k hk
    omega)
theorem Held.below (h : Held (pre ++ e :: post) w) (hc : Chg (fun k => e.bl k) w w') (hL : L ≤ w.heap.size) : Below L w w' := hc.below hL (fun k hk => ((h.all e (List.mem_append_right _ (List.mem_cons_self ..))) |> fun hp => (e.lo w hp k hk).1))
end
end Go.Proofs.Ytcnokgphioigoaa
namespace Go.Proofs.Ytcnokgphioigoaa
open Go.RowKit Go.PlainAid
set_option linter.unusedVariables false
set_option linter.unusedSimpArgs false
theorem info30 : (Try.prog.info? 38).map (fun i => (i.zero, i.size, i.bytes)) = some (some (.slice none 0 0), 1, 24) := by kernel_rfl
/-- What is wanted of each sector. -/
structure WT (L : Nat) (wv : Value) (ds : List (Value × List UInt8)) (w : World) : Prop where
  row : w.ownsRow L 38 1 wv ds.length (ds.map Prod.fst)
  dt : ∀ d ∈ ds, w.ownsRow L 5 1 d.1 512 (d.2.map B)
theorem own_setV {w : World} {L n g cap k : Nat} {zs : List Value} (h : w.ownsRow L 38 1 (.slice (some ⟨g, 0, none⟩) n cap) n zs) (z : Value) :
    (w.setCell ⟨g, k, none⟩ z).ownsRow L 38 1 (.slice (some ⟨g, 0, none⟩) n cap) n (zs.set k z) ∧ w.frozen? ⟨g, k, none⟩ = false := by
  rcases h.2 with ⟨h1, _⟩ | ⟨g2, c, cur, h1, h2, h3, h4, h5, h6, h7⟩
  · cases h1
  · cases h1
    have hB : Blk w g cur 38 := h3
    refine ⟨⟨by simpa using h.1, Or.inr ⟨g, cap, cur.setIfInBounds k z, rfl, h2, hB.set k _, h4, h5, by simpa using h6, ?_⟩⟩, hB.frozen k⟩
    rw [Array.toList_setIfInBounds, List.take_set, h7]
theorem row_ne {w : World} {L e n k T : Nat} {v : Value} {xs : List Value} {C : Array Value} (h : w.ownsRow L e 1 v n xs) (hB : Blk w k C T) (hT : e ≠ T) {g : Nat} (hg : v.ownBlock = some g) : g ≠ k := by
  obtain ⟨cur, hcur⟩ := ownsRow_type h hg
  exact Blk.ne_t hcur hB hT
section
variable {L p s : Nat} {wv : Value} {ds : List (Value × List UInt8)} {w w' : World} {x : DV}
theorem WT.keep (h : WT L wv ds w) {S : Nat → Prop} (hc : Chg S w w') (hr : ∀ g, wv.ownBlock = some g → ¬ S g) (hd : ∀ d ∈ ds, ∀ g, d.1.ownBlock = some g → ¬ S g) : WT L wv ds w' := ⟨own_keep2 h.row hc hr, fun d hm => own_keep2 (h.dt d hm) hc (hd d hm)⟩
theorem WT.more (h : WT L wv ds w) (hb : Below w.heap.size w w') : WT L wv ds w' := h.keep (Chg.ofBelow (fun _ => False) hb) (fun _ _ e => e) (fun _ _ _ _ e => e)
/-- Rows stand where a disk changes. -/
theorem DM.not_row (h : DM L p s x w) {L' e n : Nat} {v : Value} {xs : List Value} (hr : w.ownsRow L' e 1 v n xs) (he : e ≠ 77 ∧ e ≠ 88) {g : Nat} (hg : v.ownBlock = some g) : ¬ down p s g := by
  obtain ⟨C, h1, _⟩ := h.box
  obtain ⟨R, h2, _⟩ := h.sec
  rintro (e1 | e1)
  · exact row_ne hr h1 he.1 hg e1
  · exact row_ne hr h2 he.2 hg e1
theorem WT.disk (h : WT L wv ds w) (hd : DM L p s x w) (hc : Chg (down p s) w w') : WT L wv ds w' := h.keep hc (fun g hg => hd.not_row h.row (by decide) hg) (fun d hm g hg => hd.not_row (h.dt d hm) (by decide) hg)
theorem WT.lt (h : WT L wv ds w) {g : Nat} (hg : wv.ownBlock = some g) : L ≤ g ∧ g < w.heap.size := ownsRow_lt h.row hg
theorem WT.at' (h : WT L wv ds w) {i : Nat} {d : Value × List UInt8} (hi : ds[i]? = some d) : ∃ g cap, wv = .slice (some ⟨g, 0, none⟩) ds.length cap ∧ w.cell? ⟨g, i, none⟩ = some d.1 ∧ w.frozen? ⟨g, i, none⟩ = false := by
  have hlt := (List.getElem?_eq_some_iff.1 hi).1
  rcases id h.row.2 with ⟨e, e0⟩ | ⟨g, c, cur, e, hrest⟩
  · omega
  · have hr := h.row
    rw [e] at hr
    refine ⟨g, c, e, ?_, (own_setV (k := i) hr d.1).2⟩
    have := hr.cells (g := g) rfl i d.1 (by rw [List.getElem?_map, hi]; rfl)
    rwa [addr_add, Nat.zero_add] at this
/-- One is put in another's place. -/
theorem WT.set {g cap n : Nat} (h : WT L (.slice (some ⟨g, 0, none⟩) n cap) ds w) {i : Nat} (hn : ds.length = n) {v : Value} {bs : List UInt8} (hv : w.ownsRow L 5 1 v 512 (bs.map B)) : WT L (.slice (some ⟨g, 0, none⟩) n cap) (ds.set i (v, bs)) (w.setCell ⟨g, i, none⟩ v) ∧ Chg (fun k => k = g) w (w.setCell ⟨g, i, none⟩ v) := by
  have hr := h.row
  rw [hn] at hr
  have hs := (own_setV (k := i) hr v).1
  obtain ⟨cur, hcur⟩ := ownsRow_type hr (g := g) rfl
  have hch := setCell_chg w g i v
  have hk : ∀ {v' : Value} {bs' : List UInt8}, w.ownsRow L 5 1 v' 512 (bs'.map B) → (w.setCell ⟨g, i, none⟩ v).ownsRow L 5 1 v' 512 (bs'.map B) := fun h' => own_keep2 h' hch (fun k hk => row_ne h' (show Blk w g cur 38 from hcur) (by decide) hk)
  refine ⟨⟨?_, fun d hm => ?_⟩, hch⟩
  · rw [List.length_set, hn, List.map_set]
    exact hs
  · rcases List.mem_or_eq_of_mem_set hm with h1 | h1
    · exact hk (h.dt d h1)
    · subst h1
      exact hk hv
theorem DM.notRow30 (h : DM L p s x w) (hw : WT L wv ds w) (hc : Chg (fun k => wv.ownBlock = some k) w w') : DM L p s x w' := h.keep hc (fun k hk hg => h.not_row hw.row (by decide) hg hk)
/-- One more. -/
theorem WT.add (h : WT L wv ds w) (hL : L ≤ w.heap.size) {v : Value} {bs : List UInt8} (hv : w.ownsRow L 5 1 v 512 (bs.map B)) (hl : ds.length ≤ 1000) :
    ∃ v' w', (∀ ty, (Builtin.append_ #[30, 30] ty #[wv, .slice (some ⟨w.heap.size, 0, none⟩) 1 1]).run Try.prog (w.alloc (.cells #[v] 38)) = .ok v' w') ∧ WT L v' (ds ++ [(v, bs)]) w' ∧ Grew w w' wv v' := by
  have hal : Below w.heap.size w (w.alloc (.cells #[v] 38)) := (Below.refl _ _).alloc (Nat.le_refl _) _
  have h1 : ∃ so sk sc, v = .slice so sk sc := by obtain ⟨a, c, e, _⟩ := own_slice hv; exact ⟨a, 512, c, e⟩
  obtain ⟨v', w', a, b, c⟩ := app_rows (w := w.alloc (.cells #[v] 38)) 30 38 (.slice none 0 0) 1 24 Try.underlying30 info30 rfl (by decide) (by decide) (h.row.alloc _) (ao := some ⟨w.heap.size, 0, none⟩) (m := 1) (cap := 1) (ys := [v]) rfl (fun e => by cases e) (fun ad e j u hu => by
    cases e
    have hB : Blk (w.alloc (.cells #[v] 38)) w.heap.size #[v] 38 := heap_alloc_new w _
    rw [addr_add, Nat.zero_add, hB.cell j]
    cases j with
    | zero => simpa using hu
    | succ j => simp at hu) (fun u hu => by
      obtain ⟨so, sk, sc, e⟩ := h1
      rw [List.mem_singleton.1 hu, e]
      rfl) (by omega) (by rw [World.size_alloc]; omega)
  have hg := c.ofAlloc
  refine ⟨v', w', a, ⟨?_, fun d hm => ?_⟩, hg⟩
  · rw [List.length_append, List.map_append]
    exact b
  · have hk : ∀ {v' : Value} {bs' : List UInt8}, w.ownsRow L 5 1 v' 512 (bs'.map B) → w'.ownsRow L 5 1 v' 512 (bs'.map B) := fun h' => own_keep2 h' hg.chg (fun k hk hk2 => by
      obtain ⟨cur, hcur⟩ := ownsRow_type h.row hk2
      exact row_ne h' (show Blk w k cur 38 from hcur) (by decide) hk rfl)
    rcases List.mem_append.1 hm with h2 | h2
    · exact hk (h.dt d h2)
    · rw [List.mem_singleton.1 h2]
      exact hk hv
end
end Go.Proofs.Ytcnokgphioigoaa
namespace Go.Proofs.Ytcnokgphioigoaa
open Go.RowKit Go.PlainAid
set_option linter.unusedVariables false
set_option linter.unusedSimpArgs false
def tailE (L : Nat) (e : TypeId) (v : Value) (n : Nat) (xs : List Value) : Ent L where
  bl := fun k => v.ownBlock = some k
  P := fun w => Tail w L e v n xs
  fr := fun w w' h hP => tail_same hP h
  lo := fun w hP g hg => tail_lt hP g hg
def dmE (L p s : Nat) (x : DV) : Ent L where
  bl := down p s
  P := fun w => DM L p s x w
  fr := fun w w' h hP => by
    obtain ⟨C, h1, h1'⟩ := hP.box
    obtain ⟨R, h2, h2'⟩ := hP.sec
    exact ⟨⟨C, (h p (.inl rfl)).trans h1, h1'⟩, ⟨R, (h s (.inr rfl)).trans h2, h2'⟩, hP.lo, hP.nb⟩
  lo := fun w hP g hg => hP.lt hg
def datE (L : Nat) (d : Value × List UInt8) : Ent L := rowE L 5 1 d.1 d.2.length (d.2.map B)
def intE (L : Nat) (d : Value × List Int) : Ent L := rowE L 3 1 d.1 d.2.length (d.2.map I)
def strV (s : List UInt8) : Value := .string ⟨s.toArray⟩
section
variable {L : Nat} {R : List (Ent L)} {w : World}
theorem Held.boxB {pb : Nat} {C : Array Value} {T : TypeId} (h : Held (boxE L pb C T :: R) w) : Blk w pb C T := (h.all _ (List.mem_cons_self ..)).1
/-- A cell of the box is written. -/
theorem Held.boxSet {pb : Nat} {C : Array Value} {T : TypeId} (h : Held (boxE L pb C T :: R) w) (j : Nat) (v : Value) : Held (boxE L pb (C.setIfInBounds j v) T :: R) (w.setCell ⟨pb, j, none⟩ v) :=
  h.swap (setCell_chg w pb j v) ⟨h.boxB.set j v, (h.all _ (List.mem_cons_self ..)).2⟩ (fun k hk => Or.inl hk)
theorem Held.lowL {e : Ent L} (h : Held (e :: R) w) {k : Nat} (hk : e.bl k) : L ≤ w.heap.size := by
  have := h.typ (k := k) (has_cons.2 (Or.inl hk))
  omega
theorem Held.drewN (h : Held R w) (q : Nat) : Held R (w.drewN q) := h.keep (fun _ _ => rfl)
/-- One more behind a row. -/
theorem Held.tailApp {e t bytes : Nat} {tv z : Value} {n : Nat} {xs : List Value} (h : Held (tailE L e tv n xs :: R) w) (ht : Try.prog.underlying t = some (.slice e)) (hinfo : (Try.prog.info? e).map (fun i => (i.zero, i.size, i.bytes)) = some (some z, 1, bytes)) (hzs : z.cells.size = 1) (u : Value) (hu : u.oneCell' = true) (hn : (n + 1) * bytes ≤ 140737488355328) (hn2 : n ≤ 1000000) (hL : L ≤ w.heap.size) :
    ∃ v' w', (∀ ty, (Builtin.append_ #[t, t] ty #[tv, .slice (some ⟨w.heap.size, 0, none⟩) 1 1]).run Try.prog (w.alloc (.cells #[u] e)) = .ok v' w') ∧ Held (tailE L e v' (n + 1) (xs ++ [u]) :: R) w' ∧ Chg (fun k => tv.ownBlock = some k) w w' ∧ (∃ ao c, v' = .slice ao (n + 1) c) ∧ (∀ k, v'.ownBlock = some k → tv.ownBlock = some k ∨ w.heap.size ≤ k) := by
  obtain ⟨i0, hi, hz, hs, hb⟩ := info_parts hinfo
  have hT : Tail w L e tv n xs := h.all _ (List.mem_cons_self ..)
  have hal := tail_alloc hT (.cells #[u] e)
  have hnew : ∀ j y, [u][j]? = some y → (w.alloc (.cells #[u] e)).cell? ((Addr.mk w.heap.size 0 none).add j) = some y := fun j y hy => by
    have hB : Blk (w.alloc (.cells #[u] e)) w.heap.size #[u] e := heap_alloc_new w _
    rw [addr_add, Nat.zero_add, hB.cell j]
    cases j with
    | zero => simpa using hy
    | succ j => simp at hy
  obtain ⟨g, off, cap, w', hr, h2, h3, h4, h5⟩ := run_append_tail (P := Try.prog) (w.alloc (.cells #[u] e)) t t L e i0 z bytes ht hi hz hs hb hzs tv n xs hal ⟨w.heap.size, 0, none⟩ 1 1 [u] rfl hnew (fun y hy => by rw [List.mem_singleton.1 hy]; exact hu) (by omega) (by unfold maxLen; omega) hn (by rw [World.size_alloc]; omega) _ rfl
  have hch : Chg (fun k => tv.ownBlock = some k) w w' := by
    refine ⟨h3.os, h3.tape, h3.output, by have := h3.size; rw [World.size_alloc] at this; omega, fun k hk hne => ?_⟩
    exact (h3.block k (by rw [World.size_alloc]; omega) (fun e => hne e.symm)).trans (Below.heap_alloc _ _ _ hk)
  have hat : ∀ k, (Value.slice (some ⟨g, off, none⟩) (n + 1) cap).ownBlock = some k → tv.ownBlock = some k ∨ w.heap.size ≤ k := fun k hk => by
    have hgk : g = k := by simpa [Value.ownBlock] using hk
    subst hgk
    rcases h4 with h6 | h6
    · exact Or.inl h6
    · rw [World.size_alloc] at h6; exact Or.inr (by omega)
  exact ⟨_, w', fun ty => hr, h.swap hch h2 hat, hch, ⟨_, _, rfl⟩, hat⟩
end
end Go.Proofs.Ytcnokgphioigoaa
