import Derived.Test.YtadfmnlkfcigoaaRf3
import Derived.Laws.MakeOwn
namespace Go.Proofs.Ytadfmnlkfcigoaa
open Go.RowKit Go.PlainAid Go.Sort
set_option linter.unusedVariables false
set_option linter.unusedSimpArgs false
section
variable {α : Type} (lt : α → α → Bool)
/-- How many stand ahead of x. -/
def rankOf (L : List α) (x : α) : Nat := L.countP fun y => lt y x
variable {lt}
theorem rank_at (hirr : ∀ a, lt a a = false) (hasy : ∀ a b, lt a b = true → lt b a = false) : ∀ {S : List α} {k : Nat} {x : α}, S.Pairwise (fun a b => lt a b = true) → S[k]? = some x → rankOf lt S x = k
  | [], _, _, _, h => by simp at h
  | a :: t, 0, x, hp, h => by
    simp at h
    subst h
    rw [List.pairwise_cons] at hp
    unfold rankOf
    rw [List.countP_cons, List.countP_eq_zero.2 (fun y hy => by rw [hasy _ _ (hp.1 y hy)]; simp), hirr]
    rfl
  | a :: t, k + 1, x, hp, h => by
    rw [List.pairwise_cons] at hp
    have hx : t[k]? = some x := by simpa using h
    have ih := rank_at hirr hasy hp.2 hx
    unfold rankOf at ih ⊢
    rw [List.countP_cons, ih, hp.1 x (List.mem_of_getElem? hx)]
    simp
theorem rank_perm {L S : List α} (h : S.Perm L) (x : α) : rankOf lt L x = rankOf lt S x := (h.countP_eq _).symm
theorem rank_get (hirr : ∀ a, lt a a = false) (hasy : ∀ a b, lt a b = true → lt b a = false) {L S : List α} (hp : S.Perm L) (hs : S.Pairwise (fun a b => lt a b = true)) {x : α} (hx : x ∈ L) : S[rankOf lt L x]? = some x := by
  obtain ⟨k, hk, he⟩ := List.getElem_of_mem (hp.mem_iff.2 hx)
  have h1 : S[k]? = some x := by rw [List.getElem?_eq_getElem hk, he]
  rw [rank_perm hp, rank_at hirr hasy hs h1]
  exact h1
/-- Each of the first i stands at its rank. -/
def Placed (lt : α → α → Bool) (L : List α) (i : Nat) (out : List α) : Prop := out.length = L.length ∧ ∀ j x, j < i → L[j]? = some x → out[rankOf lt L x]? = some x
theorem Placed.step (hirr : ∀ a, lt a a = false) (hasy : ∀ a b, lt a b = true → lt b a = false) {L S : List α} (hp : S.Perm L) (hs : S.Pairwise (fun a b => lt a b = true)) {i : Nat} {out : List α} {x : α} (h : Placed lt L i out) (hx : L[i]? = some x) : Placed lt L (i + 1) (out.set (rankOf lt L x) x) := by
  refine ⟨by simpa using h.1, fun j y hj hy => ?_⟩
  have hxr := rank_get hirr hasy hp hs (List.mem_of_getElem? hx)
  have hyr := rank_get hirr hasy hp hs (List.mem_of_getElem? hy)
  by_cases e : rankOf lt L y = rankOf lt L x
  · rw [e] at hyr ⊢
    rw [hxr] at hyr
    cases hyr
    have hlt : rankOf lt L x < out.length := by
      have := (List.getElem?_eq_some_iff.1 hxr).1
      rw [hp.length_eq] at this
      rw [h.1]
      exact this
    simp [hlt]
  · rw [List.getElem?_set_ne (fun q => e q.symm)]
    by_cases hji : j = i
    · subst hji
      rw [hx] at hy
      cases hy
      exact absurd rfl e
    · exact h.2 j y (by omega) hy
theorem Placed.done (hirr : ∀ a, lt a a = false) (hasy : ∀ a b, lt a b = true → lt b a = false) {L S : List α} (hp : S.Perm L) (hs : S.Pairwise (fun a b => lt a b = true)) {out : List α} (h : Placed lt L L.length out) : out = S := by
  apply List.ext_getElem?
  intro k
  by_cases hk : k < S.length
  · have hkx : S[k]? = some S[k] := List.getElem?_eq_getElem hk
    have hm : S[k] ∈ L := hp.mem_iff.1 (List.getElem_mem hk)
    obtain ⟨j, hj, he⟩ := List.getElem_of_mem hm
    have := h.2 j S[k] hj (by rw [List.getElem?_eq_getElem hj, he])
    rw [rank_perm hp, rank_at hirr hasy hs hkx] at this
    rw [this, hkx]
  · rw [List.getElem?_eq_none (by rw [h.1, ← hp.length_eq]; omega), List.getElem?_eq_none (by omega)]
end
theorem rank_lt {α : Type} {lt : α → α → Bool} (hirr : ∀ a, lt a a = false) (hasy : ∀ a b, lt a b = true → lt b a = false) {L S : List α} (hp : S.Perm L) (hs : S.Pairwise (fun a b => lt a b = true)) {x : α} (hx : x ∈ L) : rankOf lt L x < L.length := by
  have := (List.getElem?_eq_some_iff.1 (rank_get hirr hasy hp hs hx)).1
  rw [hp.length_eq] at this
  exact this
theorem ltC_irr (a : Int × Int) : ltC a a = false := by rw [ltC_no]; omega
theorem ltC_asy (a b : Int × Int) (h : ltC a b = true) : ltC b a = false := by rw [ltC_iff] at h; rw [ltC_no]; omega
theorem makeC_run (n : Nat) (hn : n ≤ 100000) (w : World) : (Instr.makeSlice 79 (.int .i64 (n : Int)) (.int .i64 (n : Int))).run Try.prog w = .ok (.slice (some ⟨w.heap.size, 0, none⟩) n n) (w.alloc (.cells (flatC (List.replicate n (0, 0))).toArray 32)) := by
  obtain ⟨i0, hi, hz0, hz1, hz2⟩ := info_parts info32
  have hr := run_make (P := Try.prog) w 79 32 i0 _ Try.underlying79 hi hz0 .i64 .i64 n n (by omega) (Int.le_refl _) (by rw [hz2]; omega) (by omega)
  simp only [Int.toNat_natCast] at hr
  rw [hz1] at hr
  rw [hr]
  have e0 : ∀ n : Nat, flatC (List.replicate n (0, 0)) = List.replicate (n * 2) (.int .i64 0) := fun n => by
    induction n with
    | zero => rfl
    | succ n ih =>
      rw [show (n + 1) * 2 = n * 2 + 1 + 1 by omega, List.replicate_succ, List.replicate_succ, List.replicate_succ, ← ih]
      rfl
  have e : madeCells (Value.agg #[.int .i64 0, .int .i64 0]).cells (n * 2) = (flatC (List.replicate n (0, 0))).toArray := by
    rw [e0]
    apply Array.ext_getElem?
    intro j
    simp only [madeCells, Value.cells]
    by_cases hj : j < n * 2
    · have h2 : j % 2 = 0 ∨ j % 2 = 1 := by omega
      rcases h2 with h2 | h2 <;> simp [hj, h2]
    · simp [hj]
  rw [e]
theorem flatC_set {zs : List (Int × Int)} {k : Nat} (h : k < zs.length) (a b : Int) : ((flatC zs).set (k * 2) (.int .i64 a)).set (k * 2 + 1) (.int .i64 b) = flatC (zs.set k (a, b)) := by
  induction zs generalizing k with
  | nil => simp at h
  | cons x t ih =>
    cases k with
    | zero => simp [flatC]
    | succ k =>
      have := ih (k := k) (by simpa using h)
      simp only [flatC, List.flatMap_cons, List.set_cons_succ] at this ⊢
      rw [← this, show (k + 1) * 2 = k * 2 + 1 + 1 by omega, show k * 2 + 1 + 1 + 1 = (k * 2 + 1) + 1 + 1 by omega]
      simp
theorem own_setC {w : World} {L n g cap k : Nat} {zs : List (Int × Int)} (h : w.ownsRow L 32 2 (.slice (some ⟨g, 0, none⟩) n cap) n (flatC zs)) (hk : k < n) (z : Int × Int) :
    ((w.setCell ⟨g, k * 2, none⟩ (.int .i64 z.1)).setCell ⟨g, k * 2 + 1, none⟩ (.int .i64 z.2)).ownsRow L 32 2 (.slice (some ⟨g, 0, none⟩) n cap) n (flatC (zs.set k z)) ∧ w.frozen? ⟨g, k * 2, none⟩ = false ∧ w.frozen? ⟨g, k * 2 + 1, none⟩ = false ∧ ∃ u v, w.cell? ⟨g, k * 2, none⟩ = some (.int .i64 u) ∧ w.cell? ⟨g, k * 2 + 1, none⟩ = some (.int .i64 v) := by
  have hl : zs.length = n := by have := h.1; rw [flatC_length] at this; omega
  rcases h.2 with ⟨h1, _⟩ | ⟨g2, c, cur, h1, h2, h3, h4, h5, h6, h7⟩
  · cases h1
  · cases h1
    have hB : Blk w g cur 32 := h3
    obtain ⟨x, hx⟩ : ∃ x, zs[k]? = some x := ⟨zs[k], List.getElem?_eq_getElem (by omega)⟩
    have key : ∀ j u, j < 2 → (Ccs x)[j]? = some u → w.cell? ⟨g, k * 2 + j, none⟩ = some u := fun j u hj hu => by
      have := h.cells (g := g) rfl (k * 2 + j) u (by rw [flatC_get zs k j x hx hj]; exact hu)
      rw [addr_add, Nat.zero_add] at this
      exact this
    refine ⟨⟨by rw [flatC_length]; simp [hl], Or.inr ⟨g, cap, (cur.setIfInBounds (k * 2) (.int .i64 z.1)).setIfInBounds (k * 2 + 1) (.int .i64 z.2), rfl, h2, (hB.set (k * 2) _).set (k * 2 + 1) _, h4, h5, by simpa using h6, ?_⟩⟩, hB.frozen _, hB.frozen _, x.1, x.2, key 0 _ (by decide) rfl, key 1 _ (by decide) rfl⟩
    rw [Array.toList_setIfInBounds, Array.toList_setIfInBounds, List.take_set, List.take_set, h7]
    exact flatC_set (by omega) z.1 z.2
structure AskI (w : World) (n : Nat) (CL : List (Int × Int)) (i : Nat) (outs : List (Int × Int)) (wr : World) : Prop where
  pl : Placed ltC CL i outs
  row : wr.ownsRow w.heap.size 32 2 (.slice (some ⟨w.heap.size, 0, none⟩) n n) n (flatC outs)
  bel : Below w.heap.size w wr
set_option maxRecDepth 100000 in
set_option maxHeartbeats 3200000 in
theorem rpending_any {a : CA} {B rb : Nat} {r : RS} (w : World) (hT : RC a B rb r w) (hL : r.op.length ≤ 100000) {S : List (Int × Int)} (hp : S.Perm r.op) (hs : S.Pairwise (fun a b => ltC a b = true)) :
    Calls Try.prog 31 #[.pointer (some ⟨rb, 0, none⟩)] w fun e w' => ∃ v, e = .returned v ∧ w'.ownsRow w.heap.size 32 2 v S.length (flatC S) ∧ Below w.heap.size w w' := by
  obtain ⟨ao, kc, hv, _⟩ := own_slice hT.ro
  have c4 := hT.cell.2.2.2.2.1
  rw [hv] at c4
  have hmk := makeC_run r.op.length hL
  obtain ⟨X, hX⟩ : ∃ X, X = w.alloc (.cells (flatC (List.replicate r.op.length (0, 0))).toArray 32) := ⟨_, rfl⟩
  have hbX : Below w.heap.size w X := by rw [hX]; exact (Below.refl _ _).alloc (Nat.le_refl _) _
  have HI0 : Hid (AskI w r.op.length r.op 0 (List.replicate r.op.length (0, 0)) X) := by
    refine ⟨⟨by simp, fun j x hj => by omega⟩, ?_, hbX⟩
    refine ⟨by rw [flatC_length]; simp, Or.inr ⟨w.heap.size, r.op.length, (flatC (List.replicate r.op.length (0, 0))).toArray, rfl, Nat.le_refl _, by rw [hX]; exact heap_alloc_new w _, Nat.le_refl _, by unfold maxLen; omega, by simp [flatC_length], ?_⟩⟩
    exact List.take_of_length_le (by simp [flatC_length])
  have HT : Hid (RC a B rb r w) := hT
  have HV : Hid (r.vo = .slice ao r.op.length kc) := hv
  have HC4 : Hid (∀ wr, Below w.heap.size w wr → wr.cell? ⟨rb, 68, none⟩ = some (.slice ao r.op.length kc)) := fun wr hw => (hw.cell (p := ⟨rb, 68, none⟩) (World.block_lt_of_cell? w _ c4)).trans c4
  have HP : Hid (S.Perm r.op) := hp
  have HS : Hid (S.Pairwise (fun a b => ltC a b = true)) := hs
  have HRD : Hid (0 < r.op.length → ∃ g, ao = some ⟨g, 0, none⟩) := fun hh => by
    obtain ⟨ao2, kc2, e2, _, _, hrd⟩ := own_read hT.ro
    rw [hv] at e2
    cases e2
    obtain ⟨g, e, _⟩ := hrd hh
    exact ⟨g, e⟩
  have hz2 : ∀ w, (zeroValue 32).run Try.prog w = .ok (.agg #[.int .i64 0, .int .i64 0]) w := fun w => by kernel_rfl
  clear hT hv hbX hp hs
  go_enter Try.func31, Try.ntmps31
  go_wp2_with fail
  rw [← hX]
  clear hX hmk c4
  go_loopw [4] (fun s4 wr => ∃ i : Nat, i ≤ r.op.length ∧ s4 = .int .i64 i ∧ ∃ outs, AskI w r.op.length r.op i outs wr) (fun s4 _ => r.op.length - (intOf s4).toNat)
  case atStart => exact ⟨0, Nat.zero_le _, rfl, _, HI0.out⟩
  case round =>
    obtain ⟨i, hi, rfl, outs, hA⟩ := hrel
    obtain ⟨wo, hwo⟩ : ∃ wo, wo = wr := ⟨_, rfl⟩
    subst hwo
    clear HI0
    have XKr := HC4.out wo hA.bel
    by_cases hil : i < r.op.length
    · obtain ⟨x, hx⟩ : ∃ x, r.op[i]? = some x := ⟨r.op[i], List.getElem?_eq_getElem hil⟩
      obtain ⟨g, rfl⟩ := HRD.out (by omega)
      have HTr : Hid (RC a B rb r wo) := HT.out.more hA.bel
      have HA : Hid _ := hA
      have HX : Hid (r.op[i]? = some x) := hx
      have HQ0 : Hid _ := Below.refl wo.heap.size wo
      clear hA hx
      go_wp2_with fail
      go_loopw [5, 6] (fun s5 s6 wr => ∃ j : Nat, j ≤ r.op.length ∧ s6 = .int .i64 j ∧ s5 = .int .i64 ((r.op.take j).countP (fun y => ltC y x) : Nat) ∧ Below wo.heap.size wo wr) (fun _ s6 _ => r.op.length - (intOf s6).toNat)
      case atStart => exact ⟨0, Nat.zero_le _, rfl, rfl, HQ0.out⟩
      case round =>
        obtain ⟨j, hj, rfl, rfl, hbq⟩ := hrel
        have hTq := HTr.out.more hbq
        have XK : wr.cell? ⟨rb, 68, none⟩ = some (.slice (some ⟨g, 0, none⟩) r.op.length kc) := by
          have := hTq.cell.2.2.2.2.1
          rw [HV.out] at this
          exact this
        have hro := hTq.ro
        rw [HV.out] at hro
        obtain ⟨x0, x1⟩ := cellC hro HX.out
        by_cases hjl : j < r.op.length
        · obtain ⟨y, hy⟩ : ∃ y, r.op[j]? = some y := ⟨r.op[j], List.getElem?_eq_getElem hjl⟩
          obtain ⟨p0, p1⟩ := cellC hro hy
          have XK1 := fun o => cell_alloc XK o
          have x01 := fun o => cell_alloc x0 o
          have x11 := fun o => cell_alloc x1 o
          have hsz : ∀ o : Obj, (wr.alloc o).heap.size = wr.heap.size + 1 := fun o => by simp
          clear hTq hro
          rcases (show (y.1 < x.1) ∨ (y.1 = x.1 ∧ y.2 < x.2) ∨ (y.1 = x.1 ∧ ¬ y.2 < x.2) ∨ (x.1 < y.1) by omega) with h1 | ⟨h1, h2⟩ | ⟨h1, h2⟩ | h1
          · have hlt : ltC y x = true := by rw [ltC_iff]; omega
            have HSU : Hid ((r.op.take (j + 1)).countP (fun y => ltC y x) = (r.op.take j).countP (fun y => ltC y x) + 1) := show (r.op.take (j + 1)).countP (fun y => ltC y x) = (r.op.take j).countP (fun y => ltC y x) + 1 from by rw [List.take_add_one, hy, List.countP_append]; simp [hlt]
            have hcl : (r.op.take j).countP (fun y => ltC y x) ≤ (r.op.take j).length := List.countP_le_length
            rw [List.length_take] at hcl
            generalize hcg : (r.op.take j).countP (fun y => ltC y x) = c at *
            have HBQ : Hid _ := hbq
            have hcb : c ≤ 100000 := by omega
            clear hy hlt hbq hcl hcg
            go_wp2_with fail
            go_roundw
            case rel => exact ⟨j + 1, by omega, by go_num, by rw [HSU.out]; rfl, (HBQ.out.alloc HBQ.out.size _).alloc (by rw [World.size_alloc]; exact Nat.le_succ_of_le HBQ.out.size) _⟩
            case measure => simp [intOf]; omega
          · have hlt : ltC y x = true := by rw [ltC_iff]; omega
            rw [h1] at p0
            have HSU : Hid ((r.op.take (j + 1)).countP (fun y => ltC y x) = (r.op.take j).countP (fun y => ltC y x) + 1) := show (r.op.take (j + 1)).countP (fun y => ltC y x) = (r.op.take j).countP (fun y => ltC y x) + 1 from by rw [List.take_add_one, hy, List.countP_append]; simp [hlt]
            have hcl : (r.op.take j).countP (fun y => ltC y x) ≤ (r.op.take j).length := List.countP_le_length
            rw [List.length_take] at hcl
            generalize hcg : (r.op.take j).countP (fun y => ltC y x) = c at *
            have HBQ : Hid _ := hbq
            have hcb : c ≤ 100000 := by omega
            clear hy hlt hbq hcl hcg
            go_wp2_with fail
            go_roundw
            case rel => exact ⟨j + 1, by omega, by go_num, by rw [HSU.out]; rfl, (HBQ.out.alloc HBQ.out.size _).alloc (by rw [World.size_alloc]; exact Nat.le_succ_of_le HBQ.out.size) _⟩
            case measure => simp [intOf]; omega
          · have hlt : ltC y x = false := by rw [ltC_no]; omega
            rw [h1] at p0
            have HSU : Hid ((r.op.take (j + 1)).countP (fun y => ltC y x) = (r.op.take j).countP (fun y => ltC y x) + 0) := show (r.op.take (j + 1)).countP (fun y => ltC y x) = (r.op.take j).countP (fun y => ltC y x) + 0 from by rw [List.take_add_one, hy, List.countP_append]; simp [hlt]
            have hcl : (r.op.take j).countP (fun y => ltC y x) ≤ (r.op.take j).length := List.countP_le_length
            rw [List.length_take] at hcl
            generalize hcg : (r.op.take j).countP (fun y => ltC y x) = c at *
            have HBQ : Hid _ := hbq
            have hcb : c ≤ 100000 := by omega
            clear hy hlt hbq hcl hcg
            go_wp2_with fail
            go_roundw
            case rel => exact ⟨j + 1, by omega, by go_num, by rw [HSU.out]; rfl, (HBQ.out.alloc HBQ.out.size _).alloc (by rw [World.size_alloc]; exact Nat.le_succ_of_le HBQ.out.size) _⟩
            case measure => simp [intOf]; omega
          · have hlt : ltC y x = false := by rw [ltC_no]; omega
            have h3 : ¬ y.1 < x.1 := by omega
            have h4 : ¬ y.1 = x.1 := by omega
            have HSU : Hid ((r.op.take (j + 1)).countP (fun y => ltC y x) = (r.op.take j).countP (fun y => ltC y x) + 0) := show (r.op.take (j + 1)).countP (fun y => ltC y x) = (r.op.take j).countP (fun y => ltC y x) + 0 from by rw [List.take_add_one, hy, List.countP_append]; simp [hlt]
            have hcl : (r.op.take j).countP (fun y => ltC y x) ≤ (r.op.take j).length := List.countP_le_length
            rw [List.length_take] at hcl
            generalize hcg : (r.op.take j).countP (fun y => ltC y x) = c at *
            have HBQ : Hid _ := hbq
            have hcb : c ≤ 100000 := by omega
            clear hy hlt hbq hcl hcg
            go_wp2_with fail
            go_roundw
            case rel => exact ⟨j + 1, by omega, by go_num, by rw [HSU.out]; rfl, (HBQ.out.alloc HBQ.out.size _).alloc (by rw [World.size_alloc]; exact Nat.le_succ_of_le HBQ.out.size) _⟩
            case measure => simp [intOf]; omega
        · have hr : (r.op.take j).countP (fun y => ltC y x) = rankOf ltC r.op x := by rw [List.take_of_length_le (by omega)]; rfl
          rw [hr]
          have hrl := rank_lt ltC_irr ltC_asy HP.out HS.out (List.mem_of_getElem? HX.out)
          have HPS : Hid _ := Placed.step ltC_irr ltC_asy HP.out HS.out HA.out.pl HX.out
          generalize rankOf ltC r.op x = rk at *
          have hrow : wr.ownsRow w.heap.size 32 2 (.slice (some ⟨w.heap.size, 0, none⟩) r.op.length r.op.length) r.op.length (flatC outs) := ownsRow_same HA.out.row (fun g e => hbq.block g (ownsRow_lt HA.out.row e).2)
          obtain ⟨ho2, hfz, hfz2, u, v, hcz, hcz2⟩ := own_setC hrow hrl x
          have s1 : ∀ (W : World) (j : Nat) (v : Value), Below w.heap.size W (W.setCell ⟨w.heap.size, j, none⟩ v) := fun W j v => ⟨rfl, rfl, rfl, by simp [World.setCell], fun k hk => Below.heap_setCell _ _ _ _ (Nat.ne_of_lt hk)⟩
          have HFI : Hid (AskI w r.op.length r.op (i + 1) (outs.set rk x) ((wr.setCell ⟨w.heap.size, rk * 2, none⟩ (.int .i64 x.1)).setCell ⟨w.heap.size, rk * 2 + 1, none⟩ (.int .i64 x.2))) := ⟨HPS.out, ho2, ((HA.out.bel.trans (hbq.mono HA.out.bel.size)).trans (s1 _ _ _)).trans (s1 _ _ _)⟩
          clear hrow ho2 hbq hTq hr s1 hro
          go_wp2_with fail
          go_roundw
          case rel => exact ⟨i + 1, by omega, by go_num, _, HFI.out⟩
          case measure => simp [intOf]; omega
    · obtain rfl : i = r.op.length := by omega
      have hd := hA.pl.done ltC_irr ltC_asy HP.out HS.out
      subst hd
      have HA : Hid _ := hA
      have HLN : Hid (outs.length = r.op.length) := show outs.length = r.op.length from HP.out.length_eq
      clear hA
      go_wp2_with fail
      go_ret
      exact ⟨_, rfl, by rw [HLN.out]; exact HA.out.row, HA.out.bel⟩
end Go.Proofs.Ytadfmnlkfcigoaa
