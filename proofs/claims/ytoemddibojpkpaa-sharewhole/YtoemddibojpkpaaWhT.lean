import Derived.Test.YtoemddibojpkpaaParts
import Derived.Test.YtoemddibojpkpaaRD1
namespace Go.Proofs.Ytoemddibojpkpaa
open Go.RowKit Go.PlainAid
set_option linter.unusedVariables false
set_option linter.unusedSimpArgs false
theorem perm_sum {a b : List Int} (h : a.Perm b) : a.sum = b.sum := by
  induction h with
  | nil => rfl
  | cons x _ ih => simp only [List.sum_cons, ih]
  | swap x y l => simp only [List.sum_cons]; omega
  | trans _ _ ih1 ih2 => exact ih1.trans ih2
/-- One more for it? -/
def moreOf (t : Int) (cs : List Int) (i : Nat) : Int := if i ∈ (ord (rests0 t cs)).take (leftOf t cs).toNat then 1 else 0
theorem more_01 (t : Int) (cs : List Int) (i : Nat) : moreOf t cs i = 0 ∨ moreOf t cs i = 1 := by unfold moreOf; split <;> simp
theorem deal_at {t : Int} {cs : List Int} {n : Nat} (h : Cnt cs n) (i : Nat) (hi : i < n) : at0 (dealG t cs) i = t * at0 cs i / cs.sum + moreOf t cs i := by
  unfold dealG moreOf
  rw [bump_at _ _ (List.Nodup.sublist (List.take_sublist _ _) (ord_nodup _)) (fun a ha => by have := ord_mem.mp (List.mem_of_mem_take ha); simpa [rests0, parts0] using this)]
  congr 1
  unfold parts0
  rw [at0_map _ (by rw [h.len]; exact hi)]
theorem rest_at {t : Int} {cs : List Int} {n : Nat} (h : Cnt cs n) (i : Nat) (hi : i < n) : at0 (rests0 t cs) i = t * at0 cs i % cs.sum := by
  unfold rests0
  rw [at0_map _ (by rw [h.len]; exact hi)]
theorem more_before {t : Int} {cs : List Int} {n : Nat} (h : Cnt cs n) {i j : Nat} (hj : j < n) (h1 : moreOf t cs i = 1) (h0 : moreOf t cs j = 0) : before (rests0 t cs) i j := by
  unfold moreOf at h1 h0
  have hi : i ∈ (ord (rests0 t cs)).take (leftOf t cs).toNat := by
    apply Classical.byContradiction
    intro hn
    rw [if_neg hn] at h1
    omega
  have hjn : j ∉ (ord (rests0 t cs)).take (leftOf t cs).toNat := by
    intro hy
    rw [if_pos hy] at h0
    omega
  have hjm : j ∈ ord (rests0 t cs) := ord_mem.mpr (by simp [rests0, h.len, hj])
  have hS := ord_sorted (rests0 t cs)
  rw [← List.take_append_drop (leftOf t cs).toNat (ord (rests0 t cs))] at hS hjm
  rw [List.pairwise_append] at hS
  rcases List.mem_append.1 hjm with q | q
  · exact absurd q hjn
  · exact hS.2.2 i hi j q
/-- Where no rest is, none is given. -/
theorem more_rest {t : Int} {cs : List Int} {n : Nat} (h : Cnt cs n) {i : Nat} (hi : i < n) (h1 : moreOf t cs i = 1) : t * at0 cs i % cs.sum ≠ 0 := by
  intro hz
  have hb := left_bounds t cs h.sum
  have hsr := sum_rest t cs
  have hol := ord_length (rests0 t cs)
  have hrl : (rests0 t cs).length = n := by simp [rests0, h.len]
  -- all that come behind i have no rest
  unfold moreOf at h1
  have hm : i ∈ (ord (rests0 t cs)).take (leftOf t cs).toNat := by
    apply Classical.byContradiction
    intro hn
    rw [if_neg hn] at h1
    omega
  obtain ⟨k, hk, hki⟩ := List.getElem_of_mem hm
  have hkl : k < (leftOf t cs).toNat := by simp at hk; omega
  have hkn : k < (ord (rests0 t cs)).length := by simp at hk; omega
  rw [List.getElem_take] at hki
  have hr0 : at0 (rests0 t cs) i = 0 := by rw [rest_at h i hi]; exact hz
  have hS := ord_sorted (rests0 t cs)
  have hpos : ∀ x, x < n → 0 ≤ at0 (rests0 t cs) x ∧ at0 (rests0 t cs) x ≤ cs.sum - 1 := fun x hx => by rw [rest_at h x hx]; exact rest_range h.sum _
  -- the sum of the rests by the order
  have hsum : (rests0 t cs).sum = ((ord (rests0 t cs)).map (at0 (rests0 t cs))).sum := by
    have hp : ((ord (rests0 t cs)).map (at0 (rests0 t cs))).Perm ((List.range (rests0 t cs).length).map (at0 (rests0 t cs))) := (ord_perm (rests0 t cs)).map _
    have he : (List.range (rests0 t cs).length).map (at0 (rests0 t cs)) = rests0 t cs := by
      apply List.ext_getElem (by simp)
      intro a h1 h2
      simp [at0_lt h2]
    rw [he] at hp
    exact (perm_sum hp).symm
  have hdrop : ∀ x ∈ ((ord (rests0 t cs)).drop k).map (at0 (rests0 t cs)), x ≤ 0 := by
    intro x hx
    rw [List.mem_map] at hx
    obtain ⟨y, hy, rfl⟩ := hx
    obtain ⟨a, ha, hay⟩ := List.getElem_of_mem hy
    rw [List.getElem_drop] at hay
    by_cases ha0 : a = 0
    · subst ha0
      simp only [Nat.add_zero] at hay
      rw [hki] at hay
      rw [← hay, hr0]
      exact Int.le_refl _
    · have := List.pairwise_iff_getElem.mp hS k (k + a) hkn (by simp at ha; omega) (by omega)
      rw [hki, hay] at this
      unfold before at this
      omega
  have hs2 : ((ord (rests0 t cs)).map (at0 (rests0 t cs))).sum = (((ord (rests0 t cs)).take k).map (at0 (rests0 t cs))).sum + (((ord (rests0 t cs)).drop k).map (at0 (rests0 t cs))).sum := by
    rw [← List.sum_append, ← List.map_append, List.take_append_drop]
  have hd0 : (((ord (rests0 t cs)).drop k).map (at0 (rests0 t cs))).sum ≤ 0 := by
    have : ∀ l : List Int, (∀ z ∈ l, z ≤ 0) → l.sum ≤ 0 := by
      intro l
      induction l with
      | nil => simp
      | cons a l ih => intro h; have := h a (by simp); have := ih fun z hz => h z (by simp [hz]); simp only [List.sum_cons]; omega
    exact this _ hdrop
  have ht0 := (sum_bound (((ord (rests0 t cs)).take k).map (at0 (rests0 t cs))) (cs.sum - 1) (fun z hz => by
    rw [List.mem_map] at hz
    obtain ⟨y, hy, rfl⟩ := hz
    exact hpos y (by rw [← hrl]; exact ord_mem.mp (List.mem_of_mem_take hy)))).2
  simp only [List.length_map, List.length_take] at ht0
  have hmin : min k (ord (rests0 t cs)).length = k := by omega
  rw [hmin] at ht0
  have hle : (k : Int) + 1 ≤ leftOf t cs := by omega
  have hmul := Int.mul_le_mul_of_nonneg_right hle (Int.le_of_lt h.sum)
  rw [Int.add_mul] at hmul
  rw [Int.mul_sub] at ht0
  have hS0 := h.sum
  have hkn0 : (0 : Int) ≤ k := by omega
  omega
theorem deal_mono {t : Int} {cs : List Int} {n : Nat} (h : Cnt cs n) (ht : 0 ≤ t) {i j : Nat} (hi : i < n) (hj : j < n) (hw : at0 cs j < at0 cs i) : at0 (dealG t cs) j ≤ at0 (dealG t cs) i := by
  rw [deal_at h i hi, deal_at h j hj]
  have hS := h.sum
  have h1 : t * at0 cs j ≤ t * at0 cs i := Int.mul_le_mul_of_nonneg_left (Int.le_of_lt hw) ht
  have h2 : t * at0 cs j / cs.sum ≤ t * at0 cs i / cs.sum := Int.ediv_le_ediv hS h1
  rcases more_01 t cs i with a | a <;> rcases more_01 t cs j with b | b
  · omega
  · rw [a, b]
    apply Classical.byContradiction
    intro hc
    have he : t * at0 cs j / cs.sum = t * at0 cs i / cs.sum := by omega
    have hbf := more_before h hi b a
    unfold before at hbf
    rw [rest_at h i hi, rest_at h j hj] at hbf
    have e1 := Int.mul_ediv_add_emod (t * at0 cs i) cs.sum
    have e2 := Int.mul_ediv_add_emod (t * at0 cs j) cs.sum
    rw [he] at e2
    have hzr := more_rest h hj b
    have heq : t * at0 cs i = t * at0 cs j := by omega
    have htz : t = 0 := by
      have : t * (at0 cs i - at0 cs j) = 0 := by rw [Int.mul_sub]; omega
      rcases Int.mul_eq_zero.mp this with q | q
      · exact q
      · omega
    rw [htz] at hzr
    simp at hzr
  · omega
  · omega
theorem deal_zero {t : Int} {cs : List Int} {n : Nat} (h : Cnt cs n) {i : Nat} (hi : i < n) (hw : at0 cs i = 0) : at0 (dealG t cs) i = 0 := by
  rw [deal_at h i hi, hw, Int.mul_zero, Int.zero_ediv]
  rcases more_01 t cs i with a | a
  · omega
  · have := more_rest h hi a
    rw [hw, Int.mul_zero] at this
    simp at this
theorem cnt_same {Ls : List Int} {i j : Nat} (hi : i < Ls.length) (hj : j < Ls.length) (h : at0 Ls j < at0 Ls i) : at0 (cnt Ls) j < at0 (cnt Ls) i := by
  have : ∃ a, a < Ls.length ∧ at0 Ls a ≠ 0 := by
    by_cases q : at0 Ls i = 0
    · exact ⟨j, hj, by omega⟩
    · exact ⟨i, hi, q⟩
  obtain ⟨a, ha, hne⟩ := this
  rw [cnt_some ha hne]
  exact h
/-- An array of sixteen. -/
def arr (f : Nat → Int) (k : Nat) : List Int := (List.range 16).map fun i => if i < k then f i else 0
theorem arr_length (f : Nat → Int) (k : Nat) : (arr f k).length = 16 := by simp [arr]
theorem arr_at {f : Nat → Int} {k i : Nat} (hi : i < k) (h16 : i < 16) : at0 (arr f k) i = f i := by
  rw [at0_lt (by rw [arr_length]; exact h16)]
  simp [arr, hi]
theorem arr_set {f : Nat → Int} {k : Nat} (h : k < 16) : (arr f k).set k (f k) = arr f (k + 1) := by
  apply List.ext_getElem (by simp [arr])
  intro i h1 h2
  rw [List.getElem_set]
  simp only [arr, List.getElem_map, List.getElem_range]
  by_cases e : k = i
  · subst e; simp
  · have : (i < k) ↔ (i < k + 1) := by omega
    simp [e, this]
/-- What the law holds in memory. -/
structure WM (L gL cL gP cP m : Nat) (Ls ps : List Int) (gm gr : Nat) (ms rs : List Int) (w wr : World) : Prop where
  below : Below L w wr
  xl : wr.ownsRow L 3 1 (.slice (some ⟨gL, 0, none⟩) m cL) m (Ls.map I)
  xp : wr.ownsRow L 3 1 (.slice (some ⟨gP, 0, none⟩) m cP) m (ps.map I)
  bm : Blk wr gm (ms.map I).toArray 32
  br : Blk wr gr (rs.map I).toArray 32
  lm : ms.length = 16
  lr : rs.length = 16
  ne : gm ≠ gr
  gmL : L ≤ gm
  grL : L ≤ gr
section
variable {L gL cL gP cP m gm gr : Nat} {Ls ps ms rs : List Int} {w wr : World}
theorem cells_at {g : Nat} {xs : List Int} (h : Blk wr g (xs.map I).toArray 32) {k : Nat} (hk : k < xs.length) : wr.cell? ⟨g, k, none⟩ = some (.int .i64 (at0 xs k)) := by
  rw [h.cell k]
  simp [at0_lt hk, hk, I]
theorem cells_set {g : Nat} {xs : List Int} (h : Blk wr g (xs.map I).toArray 32) (k : Nat) (z : Int) : Blk (wr.setCell ⟨g, k, none⟩ (.int .i64 z)) g ((xs.set k z).map I).toArray 32 := by
  have := h.set k (.int .i64 z)
  rw [List.map_set]
  simpa [I] using this
theorem WM.drew (h : WM L gL cL gP cP m Ls ps gm gr ms rs w wr) : WM L gL cL gP cP m Ls ps gm gr ms rs w wr.drew := ⟨h.below.drew, ownsRow_same h.xl (fun _ _ => rfl), ownsRow_same h.xp (fun _ _ => rfl), h.bm, h.br, h.lm, h.lr, h.ne, h.gmL, h.grL⟩
theorem WM.drewN (h : WM L gL cL gP cP m Ls ps gm gr ms rs w wr) (q : Nat) : WM L gL cL gP cP m Ls ps gm gr ms rs w (wr.drewN q) := ⟨below_drewN h.below q, ownsRow_same h.xl (fun _ _ => rfl), ownsRow_same h.xp (fun _ _ => rfl), h.bm, h.br, h.lm, h.lr, h.ne, h.gmL, h.grL⟩
theorem row_ne {g gq t : Nat} {C : Array Value} {cq : Nat} {ys : List Int} (hu : wr.ownsRow L 3 1 (.slice (some ⟨gq, 0, none⟩) m cq) m (ys.map I)) (hb : Blk wr g C 32) : gq ≠ g := by
  obtain ⟨c1, q1⟩ := ownsRow_type hu (g := gq) rfl
  exact Blk.ne_t q1 hb (by decide)
theorem WM.setm (h : WM L gL cL gP cP m Ls ps gm gr ms rs w wr) {k : Nat} (hk : k < 16) (z : Int) : WM L gL cL gP cP m Ls ps gm gr (ms.set k z) rs w (wr.setCell ⟨gm, k, none⟩ (.int .i64 z)) ∧ wr.frozen? ⟨gm, k, none⟩ = false ∧ wr.cell? ⟨gm, k, none⟩ = some (.int .i64 (at0 ms k)) :=
  ⟨⟨h.below.setCell (p := ⟨gm, k, none⟩) h.gmL _, own_other h.xl (row_ne (t := 0) h.xl h.bm) _, own_other h.xp (row_ne (t := 0) h.xp h.bm) _, cells_set h.bm k z, (Chg.setCell (g := gm) (k := k) _).blk h.br (fun e => h.ne e.symm), by simp [h.lm], h.lr, h.ne, h.gmL, h.grL⟩, h.bm.frozen _, cells_at h.bm (by rw [h.lm]; exact hk)⟩
theorem WM.setr (h : WM L gL cL gP cP m Ls ps gm gr ms rs w wr) {k : Nat} (hk : k < 16) (z : Int) : WM L gL cL gP cP m Ls ps gm gr ms (rs.set k z) w (wr.setCell ⟨gr, k, none⟩ (.int .i64 z)) ∧ wr.frozen? ⟨gr, k, none⟩ = false ∧ wr.cell? ⟨gr, k, none⟩ = some (.int .i64 (at0 rs k)) :=
  ⟨⟨h.below.setCell (p := ⟨gr, k, none⟩) h.grL _, own_other h.xl (row_ne (t := 0) h.xl h.br) _, own_other h.xp (row_ne (t := 0) h.xp h.br) _, (Chg.setCell (g := gr) (k := k) _).blk h.bm h.ne, cells_set h.br k z, h.lm, by simp [h.lr], h.ne, h.gmL, h.grL⟩, h.br.frozen _, cells_at h.br (by rw [h.lr]; exact hk)⟩
end
def z16 : Array Value := #[.int .i64 0, .int .i64 0, .int .i64 0, .int .i64 0, .int .i64 0, .int .i64 0, .int .i64 0, .int .i64 0, .int .i64 0, .int .i64 0, .int .i64 0, .int .i64 0, .int .i64 0, .int .i64 0, .int .i64 0, .int .i64 0]
theorem z16_is (f : Nat → Int) : z16 = ((arr f 0).map I).toArray := by
  have : arr f 0 = List.replicate 16 0 := by
    apply List.ext_getElem (by simp [arr])
    intro i h1 h2
    rw [List.getElem_replicate]
    simp [arr]
  rw [this]
  rfl
theorem WM.start {L gL cL gP cP m : Nat} {Ls ps : List Int} {w wr : World} (f g : Nat → Int) (hb : Below L w wr) (hL : L ≤ w.heap.size) (h1 : wr.ownsRow L 3 1 (.slice (some ⟨gL, 0, none⟩) m cL) m (Ls.map I)) (h2 : wr.ownsRow L 3 1 (.slice (some ⟨gP, 0, none⟩) m cP) m (ps.map I)) : WM L gL cL gP cP m Ls ps wr.heap.size (wr.heap.size + 1) (arr f 0) (arr g 0) w ((wr.alloc (.cells z16 32)).alloc (.cells z16 32)) := by
  have hLw : L ≤ wr.heap.size := Nat.le_trans hL hb.size
  have hs : (wr.alloc (.cells z16 32)).heap.size = wr.heap.size + 1 := World.size_alloc _ _
  have q1 : Blk ((wr.alloc (.cells z16 32)).alloc (.cells z16 32)) wr.heap.size z16 32 := Blk.below (B := wr.heap.size + 1) (heap_alloc_new wr _) ((Below.refl _ _).alloc (by omega) _) (by omega)
  have q2 : Blk ((wr.alloc (.cells z16 32)).alloc (.cells z16 32)) (wr.heap.size + 1) z16 32 := by rw [← hs]; exact heap_alloc_new _ _
  rw [z16_is f] at q1
  rw [z16_is g] at q2
  exact ⟨(hb.alloc hLw _).alloc (by omega) _, (h1.alloc _).alloc _, (h2.alloc _).alloc _, q1, q2, arr_length _ _, arr_length _ _, by omega, by omega, by omega⟩
end Go.Proofs.Ytoemddibojpkpaa
