import Derived.Test.YtgohjkamikpdcaaSm2
import Derived.Test.YtgohjkamikpdcaaMix2
namespace Go.Proofs.Ytgohjkamikpdcaa
open Go.RowKit Go.PlainAid
set_option linter.unusedVariables false
set_option linter.unusedSimpArgs false
/-! Rows of rights. -/
def flatR (rs : List (Int × Int)) : List Value := rs.flatMap fun p => [I p.1, I p.2]
theorem flatR_cons (p : Int × Int) (rs : List (Int × Int)) : flatR (p :: rs) = I p.1 :: I p.2 :: flatR rs := rfl
theorem flatR_append (a b : List (Int × Int)) : flatR (a ++ b) = flatR a ++ flatR b := by simp [flatR]
theorem flatR_length (rs : List (Int × Int)) : (flatR rs).length = rs.length * 2 := by
  induction rs with
  | nil => rfl
  | cons p rs ih => rw [flatR_cons]; simp only [List.length_cons, ih]; omega
theorem flatR_get {rs : List (Int × Int)} {k : Nat} {p : Int × Int} (h : rs[k]? = some p) : (flatR rs)[k * 2]? = some (I p.1) ∧ (flatR rs)[k * 2 + 1]? = some (I p.2) := by
  induction rs generalizing k with
  | nil => simp at h
  | cons q rs ih =>
    rw [flatR_cons]
    cases k with
    | zero => simp at h; subst h; exact ⟨rfl, rfl⟩
    | succ k =>
      have := ih (by simpa using h)
      rw [show (k + 1) * 2 = k * 2 + 1 + 1 by omega]
      simpa using this
theorem flatR_set {rs : List (Int × Int)} {k : Nat} (h : k < rs.length) (a b : Int) : ((flatR rs).set (k * 2) (.int .i64 a)).set (k * 2 + 1) (.int .i64 b) = flatR (rs.set k (a, b)) := by
  induction rs generalizing k with
  | nil => simp at h
  | cons q rs ih =>
    cases k with
    | zero => rfl
    | succ k =>
      have := ih (k := k) (by simpa using h)
      rw [flatR_cons, show (k + 1) * 2 = k * 2 + 1 + 1 by omega]
      simp only [List.set_cons_succ, flatR_cons, this]
theorem oneR (rs : List (Int × Int)) : ∀ u ∈ flatR rs, u.oneCell' = true := by
  intro u hu
  unfold flatR at hu
  rw [List.mem_flatMap] at hu
  obtain ⟨p, _, hp⟩ := hu
  simp only [List.mem_cons, List.not_mem_nil, or_false] at hp
  rcases hp with rfl | rfl <;> rfl
theorem info38 : (Try.prog.info? 38).map (fun i => (i.zero, i.size, i.bytes)) = some (some (.agg #[.int .i64 0, .int .i64 0]), 2, 16) := by kernel_rfl
/-- A row of rights, and where its elements lie. -/
theorem ownR_form {w : World} {L n : Nat} {v : Value} {rs : List (Int × Int)} (h : w.ownsRow L 38 2 v n (flatR rs)) (h0 : 0 < n) : ∃ g cap, v = .slice (some ⟨g, 0, none⟩) n cap ∧ n ≤ cap ∧ cap ≤ maxLen ∧ L ≤ g ∧ g < w.heap.size := by
  obtain ⟨ao, cap, rfl, h1, h2, h3⟩ := own_read h
  obtain ⟨g, rfl, h4, h5, _⟩ := h3 h0
  exact ⟨g, cap, rfl, h1, h2, h4, h5⟩
theorem ownR_len {w : World} {L n : Nat} {v : Value} {rs : List (Int × Int)} (h : w.ownsRow L 38 2 v n (flatR rs)) : rs.length = n := by
  have := h.1
  rw [flatR_length] at this
  omega
def atR (rs : List (Int × Int)) (k : Nat) : Int × Int := rs.getD k (0, 0)
theorem atR_some {rs : List (Int × Int)} {k : Nat} (h : k < rs.length) : rs[k]? = some (atR rs k) := by unfold atR; rw [List.getD_eq_getElem?_getD, List.getElem?_eq_getElem h]; rfl
theorem ownR_at {w : World} {L n g cap k : Nat} {rs : List (Int × Int)} (h : w.ownsRow L 38 2 (.slice (some ⟨g, 0, none⟩) n cap) n (flatR rs)) (hk : k < n) : w.cell? ⟨g, k * 2, none⟩ = some (.int .i64 (atR rs k).1) ∧ w.cell? ⟨g, k * 2 + 1, none⟩ = some (.int .i64 (atR rs k).2) := by
  have hl := ownR_len h
  obtain ⟨h1, h2⟩ := flatR_get (atR_some (rs := rs) (k := k) (by omega))
  have a := h.cells (g := g) rfl _ _ h1
  have b := h.cells (g := g) rfl _ _ h2
  rw [addr_add, Nat.zero_add] at a b
  exact ⟨a, b⟩
theorem ownR_set {w : World} {L n g cap k : Nat} {rs : List (Int × Int)} (h : w.ownsRow L 38 2 (.slice (some ⟨g, 0, none⟩) n cap) n (flatR rs)) (hk : k < n) (a b : Int) :
    ((w.setCell ⟨g, k * 2, none⟩ (.int .i64 a)).setCell ⟨g, k * 2 + 1, none⟩ (.int .i64 b)).ownsRow L 38 2 (.slice (some ⟨g, 0, none⟩) n cap) n (flatR (rs.set k (a, b))) ∧ w.frozen? ⟨g, k * 2, none⟩ = false ∧ w.frozen? ⟨g, k * 2 + 1, none⟩ = false := by
  have hl := ownR_len h
  rcases h.2 with ⟨h1, _⟩ | ⟨g2, c, cur, h1, h2, h3, h4, h5, h6, h7⟩
  · cases h1
  · cases h1
    have hB : Blk w g cur 38 := h3
    refine ⟨⟨by rw [flatR_length]; simp [hl], Or.inr ⟨g, cap, _, rfl, h2, (hB.set (k * 2) (.int .i64 a)).set (k * 2 + 1) (.int .i64 b), h4, h5, by simpa using h6, ?_⟩⟩, hB.frozen _, hB.frozen _⟩
    rw [Array.toList_setIfInBounds, List.take_set, Array.toList_setIfInBounds, List.take_set, h7, flatR_set (by omega)]
def zeros2 (n : Nat) : Array Value := madeCells (Value.agg #[.int .i64 0, .int .i64 0]).cells (n * 2)
theorem flatR_zero (n : Nat) : flatR (List.replicate n (0, 0)) = List.replicate (n * 2) (.int .i64 0) := by
  induction n with
  | zero => rfl
  | succ n ih => rw [List.replicate_succ, flatR_cons, ih, show (n + 1) * 2 = n * 2 + 1 + 1 by omega]; rfl
theorem zeros2_list (n : Nat) : (zeros2 n).toList = flatR (List.replicate n (0, 0)) := by
  rw [flatR_zero]
  apply List.ext_getElem?
  intro j
  simp only [zeros2, madeCells]
  by_cases h : j < n * 2
  · have : j % 2 = 0 ∨ j % 2 = 1 := by omega
    rcases this with e | e <;> simp [h, Value.cells, e]
  · simp [h]
theorem make2_run (n : Nat) (hn : n ≤ 16) (w : World) : (Instr.makeSlice 34 (.int .i64 (n : Int)) (.int .i64 (n : Int))).run Try.prog w = .ok (.slice (some ⟨w.heap.size, 0, none⟩) n n) (w.alloc (.cells (zeros2 n) 38)) := by
  obtain ⟨i0, hi, hz0, hz1, hz2⟩ := info_parts info38
  have hr := run_make (P := Try.prog) w 34 38 i0 _ Try.underlying34 hi hz0 .i64 .i64 n n (by omega) (Int.le_refl _) (by rw [hz2]; omega) (by omega)
  simp only [Int.toNat_natCast] at hr
  rw [hz1] at hr
  exact hr
theorem make2_own (n : Nat) (hn : n ≤ 16) (w : World) {base : Nat} (hb : base ≤ w.heap.size) : (w.alloc (.cells (zeros2 n) 38)).ownsRow base 38 2 (.slice (some ⟨w.heap.size, 0, none⟩) n n) n (flatR (List.replicate n (0, 0))) := by
  have := World.ownsRow_lit (e := 38) (size := 2) w (zeros2 n) n hb (by unfold maxLen; omega) (by simp [zeros2, madeCells])
  rwa [zeros2_list] at this
/-- The first k pairs. -/
def pairTo (k : Nat) (ds us : List Int) : List (Int × Int) := (ds.zip us).take k ++ List.replicate (ds.length - k) (0, 0)
theorem pairTo_zero (ds us : List Int) : pairTo 0 ds us = List.replicate ds.length (0, 0) := by simp [pairTo]
theorem pairTo_all {ds us : List Int} {n : Nat} (h1 : ds.length = n) (h2 : us.length = n) : pairTo n ds us = ds.zip us := by
  unfold pairTo
  rw [h1, Nat.sub_self, List.take_of_length_le (by simp; omega)]
  simp
theorem pairTo_set {ds us : List Int} {k n : Nat} (h1 : ds.length = n) (h2 : us.length = n) (hk : k < n) : (pairTo k ds us).set k (at0 ds k, at0 us k) = pairTo (k + 1) ds us := by
  have hz : (ds.zip us).length = n := by simp; omega
  have hg : (ds.zip us)[k]'(by omega) = (at0 ds k, at0 us k) := by rw [List.getElem_zip, at0_lt (by omega), at0_lt (by omega)]
  unfold pairTo
  rw [List.set_append_right _ _ (by simp; omega), take_snoc _ k (by omega), hg]
  obtain ⟨m, hm⟩ : ∃ m, n = k + m + 1 := ⟨n - k - 1, by omega⟩
  have hl : ((ds.zip us).take k).length = k := by simp; omega
  rw [hl, Nat.sub_self, h1, hm, show k + m + 1 - k = m + 1 by omega, show k + m + 1 - (k + 1) = m by omega, List.replicate_succ, List.set_cons_zero]
  simp
theorem oneR2 (a b : Int) : ∀ u ∈ [I a, I b], u.oneCell' = true := by
  intro u hu
  simp only [List.mem_cons, List.not_mem_nil, or_false] at hu
  rcases hu with rfl | rfl <;> rfl
theorem appR {X : World} {L k : Nat} {v : Value} {ps : List (Int × Int)} (hown : X.ownsRow L 38 2 v k (flatR ps)) (hL : L ≤ X.heap.size) (hk : (k + 1) * 16 ≤ 140737488355328) (a b : Int) (ty : TypeId) :
    ∃ vo vc w', (Builtin.append_ #[34, 34] ty #[v, .slice (some ⟨X.heap.size, 0, none⟩) 1 1]).run Try.prog (X.alloc (.cells #[.int .i64 a, .int .i64 b] 38)) = .ok (.slice vo (k + 1) vc) w' ∧ w'.ownsRow L 38 2 (.slice vo (k + 1) vc) (k + 1) (flatR (ps ++ [(a, b)])) ∧ Grew X w' v (.slice vo (k + 1) vc) ∧
      ∀ (d : Value) (n base' : Nat) (zs : List Value), n ≤ k → d.ownBlock = v.ownBlock → X.ownsRow base' 38 2 d n zs → w'.ownsRow base' 38 2 d n zs := by
  have hB : Blk (X.alloc (.cells #[.int .i64 a, .int .i64 b] 38)) X.heap.size #[.int .i64 a, .int .i64 b] 38 := heap_alloc_new X _
  obtain ⟨v', w', hr, h1, h2, h3⟩ := app_any 34 38 (.agg #[.int .i64 0, .int .i64 0]) 2 16 Try.underlying34 info38 rfl (by decide) (by decide) (hown.alloc (.cells #[.int .i64 a, .int .i64 b] 38)) ⟨X.heap.size, 0, none⟩ 1 1 [I a, I b] rfl (fun j u hu => by
    rw [addr_add, Nat.zero_add, hB.cell j]
    match j with
    | 0 => simpa [I] using hu
    | 1 => simpa [I] using hu
    | j + 2 => simp at hu) (oneR2 a b) hk (by simp; omega) ty
  obtain ⟨vo, vc, rfl, _⟩ := own_slice h1
  refine ⟨vo, vc, w', hr, ?_, h2.ofAlloc, fun d n base' zs hn hd hod => h3 d n base' zs hn hd (hod.alloc _)⟩
  rw [flatR_append]
  exact h1
end Go.Proofs.Ytgohjkamikpdcaa
