import Derived.Test.YtjojhhkbebddmaaE13
namespace Go.Proofs.Ytjojhhkbebddmaa
open Go.RowKit Go.PlainAid
set_option linter.unusedVariables false
set_option linter.unusedSimpArgs false
/-- What a replica reported. -/
structure Nt where
  f : Int
  h : Int
  e : Ep
def Nt.row (t : Nt) : List Value := [.int .i64 t.f, .int .i64 t.h, .int .i64 t.e.r, .int .i64 t.e.k]
def flatN (l : List Nt) : List Value := l.flatMap Nt.row
theorem flatN_len (l : List Nt) : (flatN l).length = l.length * 4 := flat_len Nt.row 4 (fun _ => rfl) l
theorem flatN_app (l m : List Nt) : flatN (l ++ m) = flatN l ++ flatN m := by simp [flatN]
theorem flatN_one (l : List Nt) : ∀ u ∈ flatN l, u.oneCell' = true := by
  intro u hu
  obtain ⟨t, _, hu⟩ := List.mem_flatMap.1 hu
  simp only [Nt.row, List.mem_cons, List.not_mem_nil, or_false] at hu
  rcases hu with rfl | rfl | rfl | rfl <;> rfl
theorem flatE_at {l : List Ep} {i : Nat} {e : Ep} (h : l[i]? = some e) : (flatE l)[i * 2]? = some (.int .i64 e.r) ∧ (flatE l)[i * 2 + 1]? = some (.int .i64 e.k) :=
  ⟨(flat_at Ep.row 2 (fun _ => rfl) l i 0 e h (by decide)).trans rfl, (flat_at Ep.row 2 (fun _ => rfl) l i 1 e h (by decide)).trans rfl⟩
theorem flatN_at {l : List Nt} {i : Nat} {t : Nt} (h : l[i]? = some t) : (flatN l)[i * 4]? = some (.int .i64 t.f) ∧ (flatN l)[i * 4 + 1]? = some (.int .i64 t.h) ∧ (flatN l)[i * 4 + 2]? = some (.int .i64 t.e.r) ∧ (flatN l)[i * 4 + 3]? = some (.int .i64 t.e.k) :=
  ⟨(flat_at Nt.row 4 (fun _ => rfl) l i 0 t h (by decide)).trans rfl, (flat_at Nt.row 4 (fun _ => rfl) l i 1 t h (by decide)).trans rfl, (flat_at Nt.row 4 (fun _ => rfl) l i 2 t h (by decide)).trans rfl, (flat_at Nt.row 4 (fun _ => rfl) l i 3 t h (by decide)).trans rfl⟩
/-- The document's machine. -/
structure RV where
  me : Nat
  n : Nat
  kn : List Ep
  ov : List Ep
  nt : List Nt
  need : Bool
structure RG where
  rb : Nat
  vk : Value
  vo : Value
  vn : Value
def rbox (g : RG) (r : RV) : Array Value := #[.int .i64 (r.me : Int), .int .i64 (r.n : Int), g.vk, g.vo, g.vn, .bool r.need]
structure RM (L : Nat) (g : RG) (r : RV) (w : World) : Prop where
  b : Blk w g.rb (rbox g r) 115
  k : w.ownsRow L 49 2 g.vk r.kn.length (flatE r.kn)
  o : w.ownsRow L 49 2 g.vo r.ov.length (flatE r.ov)
  t : w.ownsRow L 119 4 g.vn r.nt.length (flatN r.nt)
  dj : ∀ q, g.vk.ownBlock = some q → g.vo.ownBlock ≠ some q
  lo : L ≤ g.rb
def rown (g : RG) (k : Nat) : Prop := k = g.rb ∨ g.vk.ownBlock = some k ∨ g.vo.ownBlock = some k ∨ g.vn.ownBlock = some k
section
variable {L : Nat} {g : RG} {r : RV} {w w' : World}
theorem RM.lt (h : RM L g r w) {k : Nat} (hk : rown g k) : L ≤ k ∧ k < w.heap.size := by
  rcases hk with rfl | e | e | e
  · exact ⟨h.lo, h.b.lt⟩
  · exact ownsRow_lt h.k e
  · exact ownsRow_lt h.o e
  · exact ownsRow_lt h.t e
theorem RM.keep (h : RM L g r w) {A : Nat → Prop} (hc : Chg A w w') (hA : ∀ k, rown g k → ¬ A k) : RM L g r w' := by
  have hs : ∀ k, rown g k → w'.heap[k]? = w.heap[k]? := fun k hk => hc.block k (h.lt hk).2 (hA k hk)
  exact ⟨(hs g.rb (.inl rfl)).trans h.b, ownsRow_same h.k (fun q e => hs q (.inr (.inl e))), ownsRow_same h.o (fun q e => hs q (.inr (.inr (.inl e)))), ownsRow_same h.t (fun q e => hs q (.inr (.inr (.inr e)))), h.dj, h.lo⟩
theorem RM.more (h : RM L g r w) (hb : Below w.heap.size w w') : RM L g r w' := h.keep (Chg.ofBelow (fun _ => False) hb) (fun _ _ e => e)
theorem RM.ne (h : RM L g r w) : (∀ q, g.vk.ownBlock = some q → q ≠ g.rb ∧ g.vn.ownBlock ≠ some q) ∧ (∀ q, g.vo.ownBlock = some q → q ≠ g.rb ∧ g.vn.ownBlock ≠ some q) ∧ (∀ q, g.vn.ownBlock = some q → q ≠ g.rb) := by
  refine ⟨fun q e => ⟨?_, fun e2 => ?_⟩, fun q e => ⟨?_, fun e2 => ?_⟩, fun q e => ?_⟩
  · obtain ⟨c, hc⟩ := ownsRow_type h.k e; exact Blk.ne_t hc h.b (by decide)
  · obtain ⟨c, hc⟩ := ownsRow_type h.k e
    obtain ⟨c2, hc2⟩ := ownsRow_type h.t e2
    exact Blk.ne_t hc hc2 (by decide) rfl
  · obtain ⟨c, hc⟩ := ownsRow_type h.o e; exact Blk.ne_t hc h.b (by decide)
  · obtain ⟨c, hc⟩ := ownsRow_type h.o e
    obtain ⟨c2, hc2⟩ := ownsRow_type h.t e2
    exact Blk.ne_t hc hc2 (by decide) rfl
  · obtain ⟨c, hc⟩ := ownsRow_type h.t e; exact Blk.ne_t hc h.b (by decide)
theorem RM.c0 (h : RM L g r w) : w.cell? ⟨g.rb, 0, none⟩ = some (.int .i64 (r.me : Int)) := h.b.cell 0
theorem RM.c1 (h : RM L g r w) : w.cell? ⟨g.rb, 1, none⟩ = some (.int .i64 (r.n : Int)) := h.b.cell 1
theorem RM.c2 (h : RM L g r w) : w.cell? ⟨g.rb, 2, none⟩ = some g.vk := h.b.cell 2
theorem RM.c3 (h : RM L g r w) : w.cell? ⟨g.rb, 3, none⟩ = some g.vo := h.b.cell 3
theorem RM.c4 (h : RM L g r w) : w.cell? ⟨g.rb, 4, none⟩ = some g.vn := h.b.cell 4
theorem RM.c5 (h : RM L g r w) : w.cell? ⟨g.rb, 5, none⟩ = some (.bool r.need) := h.b.cell 5
end
/-- The greatest round of a rank. -/
def gr (l : List Ep) (k : Int) : Int := l.foldl (fun n e => if e.k = k ∧ n < e.r then e.r else n) 0
theorem gr_app (l : List Ep) (e : Ep) (k : Int) : gr (l ++ [e]) k = if e.k = k ∧ gr l k < e.r then e.r else gr l k := by
  unfold gr
  rw [List.foldl_append]
  rfl
theorem gr_take {l : List Ep} {i : Nat} {e : Ep} (h : l[i]? = some e) (k : Int) : gr (l.take (i + 1)) k = if e.k = k ∧ gr (l.take i) k < e.r then e.r else gr (l.take i) k := by
  rw [List.take_add_one, h]
  exact gr_app _ _ _
set_option maxRecDepth 100000 in
set_option maxHeartbeats 3200000 in
theorem greatest_any {M : Nat} {l : List Ep} {v : Value} (k : Int) (w : World) (h : w.ownsRow M 49 2 v l.length (flatE l)) : Calls Try.prog 69 #[v, .int .i64 k] w fun e w' => e = .returned (.int .i64 (gr l k)) ∧ w' = w := by
  obtain ⟨ao, cap, hv, hc1, hc2, hrd⟩ := own_read h
  obtain ⟨n, hn⟩ : ∃ n, n = l.length := ⟨_, rfl⟩
  have HN : Hid (n = l.length) := hn
  have HR : Hid _ := hrd
  unfold maxLen at hc2
  rw [← hn] at hv hc1
  clear h hrd hn
  subst hv
  go_enter Try.func69, Try.ntmps69
  go_wp2
  go_loop [5, 6] (fun s i => ∃ j : Nat, j ≤ n ∧ i = .int .i64 (j : Int) ∧ s = .int .i64 (gr (l.take j) k)) (fun _ i => n - (intOf i).toNat)
  case atStart => exact ⟨0, by omega, rfl, rfl⟩
  case round =>
    obtain ⟨j, hj, rfl, rfl⟩ := hrel
    by_cases hlt : j < n
    · obtain ⟨q, rfl, _, _, hcell⟩ := HR.out (by have := HN.out; omega)
      obtain ⟨e, he⟩ : ∃ e, l[j]? = some e := ⟨_, List.getElem?_eq_getElem (by rw [← HN.out]; exact hlt)⟩
      have d0 := hcell _ _ (flatE_at he).1
      have d1 := hcell _ _ (flatE_at he).2
      have HT : Hid (gr (l.take (j + 1)) k = if e.k = k ∧ gr (l.take j) k < e.r then e.r else gr (l.take j) k) := gr_take he k
      obtain ⟨er, ek⟩ := e
      simp only at d0 d1
      generalize hG : gr (l.take j) k = G at *
      clear hG hcell he
      by_cases h1 : ek = k
      · have h1b : (ek == k) = true := by simpa using h1
        by_cases h2 : G < er
        · have HT2 : Hid (gr (l.take (j + 1)) k = er) := HT.out.trans (if_pos ⟨h1, h2⟩)
          clear HT h1
          go_wp2
          go_round
          case rel => exact ⟨j + 1, by omega, by go_num, by rw [HT2.out]⟩
          case measure => simp [intOf]; omega
        · have HT2 : Hid (gr (l.take (j + 1)) k = G) := HT.out.trans (if_neg (fun h => h2 h.2))
          clear HT h1
          go_wp2
          go_round
          case rel => exact ⟨j + 1, by omega, by go_num, by rw [HT2.out]⟩
          case measure => simp [intOf]; omega
      · have h1b : (ek == k) = false := by simpa using h1
        have HT2 : Hid (gr (l.take (j + 1)) k = G) := HT.out.trans (if_neg (fun h => h1 h.1))
        clear HT h1
        go_wp2
        go_round
        case rel => exact ⟨j + 1, by omega, by go_num, by rw [HT2.out]⟩
        case measure => simp [intOf]; omega
    · obtain rfl : j = n := by omega
      have HT : Hid (gr (l.take j) k = gr l k) := show _ = _ from by rw [List.take_of_length_le (by rw [HN.out]; exact Nat.le_refl _)]
      go_wp2
      go_ret
      exact ⟨by rw [HT.out]; rfl, rfl⟩
end Go.Proofs.Ytjojhhkbebddmaa
