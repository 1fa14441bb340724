import Derived.Test.YtlajcaofpmjdlaaAp0
import Derived.BigQuiet
namespace Go.Proofs.Ytlajcaofpmjdlaa
open Go.RowKit Go.PlainAid
set_option linter.unusedVariables false
set_option linter.unusedSimpArgs false
theorem tail_by {w : World} {L : Nat} {v : Value} {s : List UInt8} (h : Tail w L 5 v s.length (s.map B)) : By w v s := by
  rcases h.2 with ⟨e1, e2⟩ | ⟨g, off, cap, e1, h1, h2, h3, h4⟩
  · exact ⟨none, 0, 0, e1, e2, fun _ => ⟨rfl, rfl⟩, fun ad e => by cases e⟩
  · refine ⟨_, _, _, e1, rfl, (fun e => by cases e), fun ad e j u hu => ?_⟩
    cases e
    rw [addr_add]
    exact h4 j u hu
theorem range_at {α : Type} (f : Nat → α) {n i : Nat} (h : i < n) : ((List.range n).map f)[i]? = some (f i) := by simp [h]
/-- What apart holds: a shelf's two rows, the data of one of them by numbers, what was made ahead, and all else. -/
def HP (L pb : Nat) (C : Array Value) (T1 T2 : TypeId) (lv wv : Value) (nb : Nat) (V W : Nat → Value) (pre : List (Ent L)) (F : Nat → Ent L) (post : List (Ent L)) (w : World) : Prop := Held ((pre ++ [boxE L pb C 66, tailE L T1 lv nb ((List.range nb).map V), tailE L T2 wv nb ((List.range nb).map W)]) ++ (Fl nb F ++ post)) w
section
variable {L pb : Nat} {C : Array Value} {T1 T2 T : TypeId} {lv wv : Value} {nb i : Nat} {V W : Nat → Value} {pre : List (Ent L)} {F G : Nat → Ent L} {post : List (Ent L)} {w w' : World}
theorem HP.box (h : HP L pb C T1 T2 lv wv nb V W pre F post w) : Blk w pb C 66 := (h.all (boxE L pb C 66) (by simp)).1
theorem HP.low (h : HP L pb C T1 T2 lv wv nb V W pre F post w) : L ≤ w.heap.size := Nat.le_trans (h.all (boxE L pb C 66) (by simp)).2 (Nat.le_of_lt h.box.lt)
theorem HP.tl (h : HP L pb C T1 T2 lv wv nb V W pre F post w) : Tail w L T1 lv nb ((List.range nb).map V) := h.all (tailE L T1 lv nb ((List.range nb).map V)) (by simp)
theorem HP.tw (h : HP L pb C T1 T2 lv wv nb V W pre F post w) : Tail w L T2 wv nb ((List.range nb).map W) := h.all (tailE L T2 wv nb ((List.range nb).map W)) (by simp)
theorem HP.drew (h : HP L pb C T1 T2 lv wv nb V W pre F post w) (q : Nat) : HP L pb C T1 T2 lv wv nb V W pre F post (w.drewN q) := Held.drewN h q
theorem HP.lrow (h : HP L pb C T1 T2 lv wv nb V W pre F post w) (hi : i < nb) : ∃ g o c, lv = .slice (some ⟨g, o, none⟩) nb c ∧ w.cell? ⟨g, o + i, none⟩ = some (V i) := tail_at h.tl (range_at V hi)
theorem HP.wrow (h : HP L pb C T1 T2 lv wv nb V W pre F post w) (hi : i < nb) : ∃ g o c, wv = .slice (some ⟨g, o, none⟩) nb c ∧ w.cell? ⟨g, o + i, none⟩ = some (W i) := tail_at h.tw (range_at W hi)
theorem HP.part (h : HP L pb C T1 T2 lv wv nb V W pre F post w) (hi : i < nb) : (F i).P w := Held.getN h hi
theorem HP.rest (h : HP L pb C T1 T2 lv wv nb V W pre F post w) {e : Ent L} (he : e ∈ post) : e.P w := h.all e (List.mem_append_right _ (List.mem_append_right _ he))
end
/-- Rows with their contents. -/
def rE (L : Nat) (T : TypeId) (V : Nat → Value) (N : Nat → Nat) (X : Nat → List Value) (k : Nat) : Ent L := tailE L T (V k) (N k) (X k)
/-- Rows that are being written full of marks. -/
def mX (N : Nat → Nat) (X : Nat → List Value) (Z : Nat → Value) (i j : Nat) (k : Nat) : List Value := if k < i then List.replicate (N k) (Z k) else if k = i then List.replicate j (Z k) ++ (X k).drop j else X k
theorem mX_zero (N : Nat → Nat) (X : Nat → List Value) (Z : Nat → Value) : mX N X Z 0 0 = X := by
  funext k
  unfold mX
  by_cases h : k = 0
  · simp [h]
  · simp [h]
theorem mX_next (N : Nat → Nat) (X : Nat → List Value) (Z : Nat → Value) (i : Nat) (h : (X i).length = N i) : mX N X Z i (N i) = mX N X Z (i + 1) 0 := by
  funext k
  unfold mX
  by_cases h1 : k < i
  · rw [if_pos h1, if_pos (by omega)]
  · rw [if_neg h1]
    by_cases h2 : k = i
    · subst h2
      rw [if_pos rfl, if_pos (by omega), List.drop_of_length_le (by omega), List.append_nil]
    · rw [if_neg h2, if_neg (by omega)]
      by_cases h3 : k = i + 1
      · rw [if_pos h3]; simp
      · rw [if_neg h3]
theorem mX_set (N : Nat → Nat) (X : Nat → List Value) (Z : Nat → Value) (i j : Nat) (h : j < (X i).length) : (mX N X Z i j i).set j (Z i) = mX N X Z i (j + 1) i := by
  unfold mX
  rw [if_neg (by omega), if_pos rfl, if_neg (by omega), if_pos rfl]
  rw [List.set_append_right _ _ (by simp), List.length_replicate, Nat.sub_self, List.replicate_succ', List.append_assoc]
  congr 1
  rw [List.drop_eq_getElem_cons h]
  rfl
theorem mX_ne (N : Nat → Nat) (X : Nat → List Value) (Z : Nat → Value) {i j k : Nat} (h : k ≠ i) : mX N X Z i (j + 1) k = mX N X Z i j k := by
  unfold mX
  rw [if_neg h, if_neg h]
theorem mX_end (N : Nat → Nat) (X : Nat → List Value) (Z : Nat → Value) {n k : Nat} (h : k < n) : mX N X Z n 0 k = List.replicate (N k) (Z k) := by
  unfold mX
  rw [if_pos h]
section
variable {L pb : Nat} {C : Array Value} {T1 T2 T : TypeId} {lv wv : Value} {nb i j : Nat} {V W Z U Y : Nat → Value} {N : Nat → Nat} {X : Nat → List Value} {pre : List (Ent L)} {post : List (Ent L)} {w w' : World}
/-- One mark. -/
theorem HP.mark {g off cap : Nat} (h : HP L pb C T1 T2 lv wv nb V W pre (rE L T V N (mX N X Z i j)) post w) (hi : i < nb) (hX : (X i).length = N i) (hj : j < N i) (hV : V i = .slice (some ⟨g, off, none⟩) (N i) cap) :
    w.frozen? ⟨g, off + j, none⟩ = false ∧ (∃ x, w.cell? ⟨g, off + j, none⟩ = some x) ∧ HP L pb C T1 T2 lv wv nb V W pre (rE L T V N (mX N X Z i (j + 1))) post (w.setCell ⟨g, off + j, none⟩ (Z i)) ∧ Below L w (w.setCell ⟨g, off + j, none⟩ (Z i)) := by
  have hp : Tail w L T (V i) (N i) (mX N X Z i j i) := h.part hi
  rw [hV] at hp
  obtain ⟨h1, h2⟩ := tail_set hp j hj (Z i)
  rw [mX_set N X Z i j (by omega)] at h1
  have hc : Chg (fun k => (rE L T V N (mX N X Z i j) i).bl k) w (w.setCell ⟨g, off + j, none⟩ (Z i)) := (setCell_chg _ _ _ _).mono (fun k _ e => by subst e; show (V i).ownBlock = some _; rw [hV]; rfl)
  refine ⟨h2, ?_, Held.atN _ h hi (fun k hk => by unfold rE; rw [mX_ne N X Z hk]) hc ?_ (fun k hk => Or.inl hk), Held.belowN h hi h.low hc⟩
  · have hl : j < (mX N X Z i j i).length := by rw [hp.1]; exact hj
    obtain ⟨g', o', c', e, hcell⟩ := tail_at hp (List.getElem?_eq_getElem hl)
    cases e
    exact ⟨_, hcell⟩
  · show Tail _ L T (V i) (N i) (mX N X Z i (j + 1) i)
    rw [hV]; exact h1
/-- How far each has grown. -/
def gM (c i j : Nat) (k : Nat) : Nat := if k < i then c else if k = i then j else 0
theorem gM_next (c i : Nat) : gM c i c = gM c (i + 1) 0 := by
  funext k
  unfold gM
  by_cases h1 : k < i
  · rw [if_pos h1, if_pos (by omega)]
  · rw [if_neg h1]
    by_cases h2 : k = i
    · rw [if_pos h2, if_pos (by omega)]
    · rw [if_neg h2, if_neg (by omega)]
      split <;> rfl
theorem gM_ne {c i j k : Nat} (h : k ≠ i) : gM c i (j + 1) k = gM c i j k := by
  unfold gM
  rw [if_neg h, if_neg h]
theorem gM_at (c i j : Nat) : gM c i j i = j := by simp [gM]
theorem gM_zero (c : Nat) : gM c 0 0 = fun _ => 0 := by funext k; simp [gM]
theorem gM_end {c n k : Nat} (h : k < n) : gM c n 0 k = c := by simp [gM, h]
/-- All that grows. -/
structure GP (L pb : Nat) (C : Array Value) (T1 T2 T : TypeId) (lv wv : Value) (nb : Nat) (V W : Nat → Value) (N : Nat → Nat) (Z Y : Nat → Value) (c i j : Nat) (fv : Value) (U : Nat → Value) (post : List (Ent L)) (w : World) : Prop where
  h : HP L pb C T1 T2 lv wv nb V W [tailE L T1 fv i ((List.range i).map U)] (gE L T V N (fun k => List.replicate (N k) (Z k)) U (gM c i j) Y) post w
  g : ∀ k, k < nb → Grow (V k) (N k) (U k) (N k + gM c i j k)
theorem GP.start (h : HP L pb C T1 T2 lv wv nb V W [] (rE L T V N (mX N X Z nb 0)) post w) (c : Nat) (Y : Nat → Value) : GP L pb C T1 T2 T lv wv nb V W N Z Y c 0 0 (.slice none 0 0) V post w := by
  refine ⟨?_, fun k hk => ?_⟩
  · have h1 : HP L pb C T1 T2 lv wv nb V W [] (gE L T V N (fun k => List.replicate (N k) (Z k)) V (gM c 0 0) Y) post w := Held.impN h (fun k hk hP => ?_) (fun k j hj => ?_)
    · exact Held.add (e := tailE L T1 (.slice none 0 0) 0 []) h1 (tail_nil w L T1) (fun k hk => by cases hk)
    · have h2 : Tail w L T (V k) (N k) (mX N X Z nb 0 k) := hP
      rw [mX_end N X Z hk] at h2
      rw [gM_zero]
      refine ⟨h2, ?_⟩
      simpa using h2
    · rcases hj with h3 | h3
      · exact h3
      · exact h3
  · rw [gM_zero, Nat.add_zero]
    obtain ⟨ao, c', e⟩ := tail_val (h.part hk)
    exact Or.inl ⟨ao, c', e, e⟩
theorem GP.rows {c : Nat} {fv : Value} (h : GP L pb C T1 T2 T lv wv nb V W N Z Y c i j fv U post w) {k : Nat} (hk : k < nb) : Tail w L T (V k) (N k) (List.replicate (N k) (Z k)) ∧ Tail w L T (U k) (N k + gM c i j k) (List.replicate (N k) (Z k) ++ List.replicate (gM c i j k) (Y k)) := h.h.part hk
/-- One more, behind one of them. -/
theorem GP.more {c : Nat} {fv : Value} {t bytes : Nat} {z : Value} (h : GP L pb C T1 T2 T lv wv nb V W N Z Y c i j fv U post w) (hi : i < nb) (ht : Try.prog.underlying t = some (.slice T)) (hinfo : (Try.prog.info? T).map (fun i => (i.zero, i.size, i.bytes)) = some (some z, 1, bytes)) (hzs : z.cells.size = 1) (hx : (Y i).oneCell' = true) (hb : bytes ≤ 8) (hn : N i ≤ 4194304) (hj : j < 1000) :
    ∃ u' w', (∀ ty, (Builtin.append_ #[t, t] ty #[U i, .slice (some ⟨w.heap.size, 0, none⟩) 1 1]).run Try.prog (w.alloc (.cells #[Y i] T)) = .ok u' w') ∧ (∃ ao c, u' = .slice ao (N i + (j + 1)) c) ∧ GP L pb C T1 T2 T lv wv nb V W N Z Y c i (j + 1) fv (fun k => if k = i then u' else U k) post w' ∧ Below L w w' := by
  have hr := h.rows hi
  have hg := h.g i hi
  rw [gM_at] at hr hg
  have hbb : (N i + j + 1) * bytes ≤ 140737488355328 := by
    have := Nat.mul_le_mul_left (N i + j + 1) hb
    omega
  obtain ⟨u', w', hrun, hT, hG, hc, hf, hu⟩ := tw_app hr hg (fun q x hq => by rw [List.getElem?_append_left (List.getElem?_eq_some_iff.1 hq).1]; exact hq) (by omega) ht hinfo hzs (Y i) hx hbb (by omega) h.h.low
  have hc' : Chg (fun k => (gE L T V N (fun k => List.replicate (N k) (Z k)) U (gM c i j) Y i).bl k) w w' := hc
  refine ⟨u', w', hrun, hf, ⟨?_, fun k hk => ?_⟩, Held.belowN h.h hi h.h.low hc'⟩
  · have e1 : (List.range i).map (fun k => if k = i then u' else U k) = (List.range i).map U := List.map_congr_left (fun k hk => by have := List.mem_range.1 hk; simp [show ¬ k = i by omega])
    rw [e1]
    refine Held.atN _ h.h hi (fun k hk => ?_) hc' ?_ (fun k hk => ?_)
    · unfold gE
      simp only [if_neg hk, gM_ne hk]
    · show Tail w' L T (V i) (N i) _ ∧ Tail w' L T _ _ _
      simp only [if_true, gM_at]
      refine ⟨hT.1, ?_⟩
      have := hT.2
      rw [List.append_assoc, ← List.replicate_succ'] at this
      exact this
    · have : (V i).ownBlock = some k ∨ (if i = i then u' else U i).ownBlock = some k := hk
      simp only [if_true] at this
      exact hu k this
  · by_cases hki : k = i
    · subst hki
      simp only [if_true, gM_at]
      exact hG
    · simp only [if_neg hki, gM_ne hki]
      exact h.g k hk
/-- It is laid beside the others. -/
theorem GP.lay {c : Nat} {fv : Value} {t bytes : Nat} {z : Value} (h : GP L pb C T1 T2 T lv wv nb V W N Z Y c i c fv U post w) (hi : i < nb) (ht : Try.prog.underlying t = some (.slice T1)) (hinfo : (Try.prog.info? T1).map (fun i => (i.zero, i.size, i.bytes)) = some (some z, 1, bytes)) (hzs : z.cells.size = 1) (hb : bytes ≤ 24) (hnb : nb ≤ 100) :
    ∃ fv' w', (∀ ty, (Builtin.append_ #[t, t] ty #[fv, .slice (some ⟨w.heap.size, 0, none⟩) 1 1]).run Try.prog (w.alloc (.cells #[U i] T1)) = .ok fv' w') ∧ (∃ ao c, fv' = .slice ao (i + 1) c) ∧ GP L pb C T1 T2 T lv wv nb V W N Z Y c (i + 1) 0 fv' U post w' ∧ Below L w w' := by
  have h1 : Held (tailE L T1 fv i ((List.range i).map U) :: ([boxE L pb C 66, tailE L T1 lv nb ((List.range nb).map V), tailE L T2 wv nb ((List.range nb).map W)] ++ (Fl nb (gE L T V N (fun k => List.replicate (N k) (Z k)) U (gM c i c) Y) ++ post))) w := h.h
  obtain ⟨uo, uc, hU⟩ := tail_val (h.rows hi).2
  have hbb : (i + 1) * bytes ≤ 140737488355328 := by
    have := Nat.mul_le_mul_left (i + 1) hb
    omega
  obtain ⟨v', w', hr, hH, hc, hf, hu⟩ := h1.tailApp ht hinfo hzs (U i) (by rw [hU]; rfl) hbb (by omega) h.h.low
  refine ⟨v', w', hr, hf, ⟨?_, fun k hk => ?_⟩, Held.below2 h1 h.h.low hc (fun k hk => ⟨_, List.mem_cons_self .., hk⟩)⟩
  · have e1 : (List.range (i + 1)).map U = (List.range i).map U ++ [U i] := by rw [List.range_succ, List.map_append]; rfl
    rw [e1, ← gM_next]
    exact hH
  · rw [← gM_next]
    exact h.g k hk
end
theorem cellB (n : Int) : (Value.int .u8 n).oneCell' = true := rfl
theorem cellI (n : Int) : (Value.int .i64 n).oneCell' = true := rfl
end Go.Proofs.Ytlajcaofpmjdlaa
