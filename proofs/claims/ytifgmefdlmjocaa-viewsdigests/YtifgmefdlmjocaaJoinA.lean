import Derived.Test.YtifgmefdlmjocaaRnh
namespace Go.Proofs.Ytifgmefdlmjocaa
open Go.RowKit Go.PlainAid Go.MapKept
set_option linter.unusedVariables false
set_option linter.unusedSimpArgs false
/-- Marks in a list of views, and of rights. -/
def mkV (base : Int) (n : Nat) : List Ent := (List.range n).map fun (i : Nat) => ⟨0, [], 0, 0, base - i, 0, 0, 0⟩
def mkR (b : Int) (n : Nat) : List (Int × Int) := (List.range n).map fun (i : Nat) => (-1 - (i : Int), b)
theorem mkV_len (base : Int) (n : Nat) : (mkV base n).length = n := by simp [mkV]
theorem mkR_len (b : Int) (n : Nat) : (mkR b n).length = n := by simp [mkR]
theorem mkV_at {base : Int} {n i : Nat} (h : i < n) : (mkV base n)[i]? = some ⟨0, [], 0, 0, base - i, 0, 0, 0⟩ := by simp [mkV, h]
theorem mkR_at {b : Int} {n i : Nat} (h : i < n) : (mkR b n)[i]? = some (-1 - (i : Int), b) := by simp [mkR, h]
theorem flatR_get : ∀ (rs : List (Int × Int)) (i : Nat) (p : Int × Int), rs[i]? = some p → (flatR rs)[i * 2]? = some (.int .i64 p.1) ∧ (flatR rs)[i * 2 + 1]? = some (.int .i64 p.2)
  | [], i, p, h => by simp at h
  | q :: t, 0, p, h => by
    simp at h
    subst h
    exact ⟨rfl, rfl⟩
  | q :: t, i + 1, p, h => by
    have ih := flatR_get t i p (by simpa using h)
    rw [flatR_cons]
    constructor
    · rw [show (i + 1) * 2 = i * 2 + 1 + 1 from by omega, List.getElem?_cons_succ, List.getElem?_cons_succ]
      exact ih.1
    · rw [show (i + 1) * 2 + 1 = i * 2 + 1 + 1 + 1 from by omega, List.getElem?_cons_succ, List.getElem?_cons_succ]
      exact ih.2
set_option maxRecDepth 100000 in
set_option maxHeartbeats 3200000 in
theorem marked_any {pb La Lb nd nk : Nat} {y0 y1 y4 dg kn : Value} (w : World) (hB : Blk w pb #[y0, y1, dg, kn, y4] 68) (hd : w.ownsRow La 46 7 dg nd (flatV (mkV (-1) nd))) (hk : w.ownsRow Lb 44 2 kn nk (flatR (mkR (-7) nk))) (h1 : nd ≤ 100000) (h2 : nk ≤ 100000) :
    Calls Try.prog 70 #[.pointer (some ⟨pb, 0, none⟩)] w fun e w' => e = .returned (.bool true) ∧ w' = w := by
  obtain ⟨da, dc, hdv, _, _, hdc⟩ := own_read hd
  subst hdv
  obtain ⟨ka, kc, hkv, _, _, hkc⟩ := own_read hk
  subst hkv
  have c2 : w.cell? ⟨pb, 2, none⟩ = some (.slice da nd dc) := hB.cell 2
  have c3 : w.cell? ⟨pb, 3, none⟩ = some (.slice ka nk kc) := hB.cell 3
  have HDC : Hid (0 < nd → ∃ g, da = some ⟨g, 0, none⟩ ∧ La ≤ g ∧ g < w.heap.size ∧ ∀ j u, (flatV (mkV (-1) nd))[j]? = some u → w.cell? ⟨g, j, none⟩ = some u) := hdc
  have HKC : Hid (0 < nk → ∃ g, ka = some ⟨g, 0, none⟩ ∧ Lb ≤ g ∧ g < w.heap.size ∧ ∀ j u, (flatR (mkR (-7) nk))[j]? = some u → w.cell? ⟨g, j, none⟩ = some u) := hkc
  clear hB hd hk hdc hkc
  go_enter Try.func70, Try.ntmps70
  go_wp2_with fail
  go_loopw [3] (fun i wr => ∃ q : Nat, q ≤ nd ∧ i = .int .i64 q ∧ wr = w) (fun i _ => nd - (intOf i).toNat)
  case atStart => exact ⟨0, Nat.zero_le _, rfl, rfl⟩
  case round =>
    obtain ⟨q, hq, rfl, hwr⟩ := hrel
    replace hwr := hwr.symm
    subst hwr
    by_cases hlt : q < nd
    · obtain ⟨g, hg, _, _, hc⟩ := HDC.out (by omega)
      subst hg
      have d0 : w.cell? ⟨g, q * 7, none⟩ = some (.string ⟨#[]⟩) := hc (q * 7) _ (flatV_get _ q 0 _ (mkV_at hlt) (by decide))
      have d3 : w.cell? ⟨g, q * 7 + 3, none⟩ = some (.int .i64 (-1 - (q : Int))) := hc (q * 7 + 3) _ (flatV_get _ q 3 _ (mkV_at hlt) (by decide))
      have hw : IntKind.i64.wrap (-1 - (q : Int)) = -1 - (q : Int) := by rw [IntKind.wrap_i64]; omega
      clear hc HDC
      go_wp2_with fail
      go_roundw
      case rel => exact ⟨q + 1, by omega, by go_num, by first | rfl | trivial⟩
      case measure => simp [intOf]; omega
    · clear HDC
      go_wp2_with fail
      go_loopw [4] (fun i wr => ∃ q : Nat, q ≤ nk ∧ i = .int .i64 q ∧ wr = w) (fun i _ => nk - (intOf i).toNat)
      case atStart => exact ⟨0, Nat.zero_le _, rfl, rfl⟩
      case round =>
        obtain ⟨p, hp, rfl, hwr⟩ := hrel
        replace hwr := hwr.symm
        subst hwr
        by_cases hlt2 : p < nk
        · obtain ⟨g, hg, _, _, hc⟩ := HKC.out (by omega)
          subst hg
          obtain ⟨e0, e1⟩ := flatR_get _ p _ (mkR_at (b := -7) hlt2)
          have d0 : w.cell? ⟨g, p * 2, none⟩ = some (.int .i64 (-1 - (p : Int))) := hc _ _ e0
          have d1 : w.cell? ⟨g, p * 2 + 1, none⟩ = some (.int .i64 (-7)) := hc _ _ e1
          have hw : IntKind.i64.wrap (-1 - (p : Int)) = -1 - (p : Int) := by rw [IntKind.wrap_i64]; omega
          clear hc HKC e0 e1
          go_wp2_with fail
          go_roundw
          case rel => exact ⟨p + 1, by omega, by go_num, by first | rfl | trivial⟩
          case measure => simp [intOf]; omega
        · clear HKC
          go_wp2_with fail
          go_ret
          exact ⟨rfl, rfl⟩
end Go.Proofs.Ytifgmefdlmjocaa
namespace Go.Proofs.Ytifgmefdlmjocaa
open Go.RowKit Go.PlainAid Go.MapKept
set_option linter.unusedVariables false
set_option linter.unusedSimpArgs false
/-- Rows of one type, no two in one block: a slice, its length, its cells. -/
abbrev RW := Value × Nat × List Value
structure RG (L0 T sz : Nat) (rs : List RW) (w : World) : Prop where
  all : ∀ x ∈ rs, w.ownsRow L0 T sz x.1 x.2.1 x.2.2
  dj : rs.Pairwise fun a b => ∀ g, a.1.ownBlock = some g → b.1.ownBlock ≠ some g
section
variable {L0 T sz : Nat} {rs : List RW} {w w' : World} {v v' : Value} {n n' : Nat} {xs xs' : List Value}
theorem RG.nil (L0 T sz : Nat) (w : World) : RG L0 T sz [] w := ⟨fun _ h => (by cases h), List.Pairwise.nil⟩
theorem RG.keep (h : RG L0 T sz rs w) (hk : ∀ x ∈ rs, ∀ g, x.1.ownBlock = some g → w'.heap[g]? = w.heap[g]?) : RG L0 T sz rs w' := ⟨fun x hx => ownsRow_same (h.all x hx) (hk x hx), h.dj⟩
theorem RG.lt (h : RG L0 T sz rs w) {x : RW} (hx : x ∈ rs) {g : Nat} (hg : x.1.ownBlock = some g) : L0 ≤ g ∧ g < w.heap.size := ownsRow_lt (h.all x hx) hg
theorem RG.more (h : RG L0 T sz rs w) (hb : Below w.heap.size w w') : RG L0 T sz rs w' := h.keep fun x hx g hg => hb.block g (h.lt hx hg).2
theorem RG.chg {A : Nat → Prop} (h : RG L0 T sz rs w) (hc : Chg A w w') (hn : ∀ x ∈ rs, ∀ g, x.1.ownBlock = some g → ¬ A g) : RG L0 T sz rs w' := h.keep fun x hx g hg => hc.block g (h.lt hx hg).2 (hn x hx g hg)
theorem RG.typ (h : RG L0 T sz rs w) {x : RW} (hx : x ∈ rs) {g : Nat} (hg : x.1.ownBlock = some g) : ∃ cu, Blk w g cu T := ownsRow_type (h.all x hx) hg
theorem RG.ne_t {b : Nat} {D : Array Value} {U : TypeId} (h : RG L0 T sz rs w) (hB : Blk w b D U) (hU : U ≠ T) {x : RW} (hx : x ∈ rs) {g : Nat} (hg : x.1.ownBlock = some g) : g ≠ b := fun e => by
  obtain ⟨cu, hcu⟩ := h.typ hx hg
  subst e
  exact hB.ne_t hcu hU rfl
theorem RG.drop {x : RW} (h : RG L0 T sz (x :: rs) w) : RG L0 T sz rs w := ⟨fun y hy => h.all y (List.mem_cons_of_mem _ hy), (List.pairwise_cons.1 h.dj).2⟩
theorem RG.head {x : RW} (h : RG L0 T sz (x :: rs) w) : w.ownsRow L0 T sz x.1 x.2.1 x.2.2 := h.all x (List.mem_cons_self ..)
theorem RG.fresh (h : RG L0 T sz rs w) (hb : Below w.heap.size w w') (hL : L0 ≤ w.heap.size) (ho : w'.ownsRow w.heap.size T sz v n xs) : RG L0 T sz ((v, n, xs) :: rs) w' := by
  have h1 := h.more hb
  refine ⟨fun x hx => ?_, List.pairwise_cons.2 ⟨fun y hy g hg hy2 => ?_, h1.dj⟩⟩
  · rcases List.mem_cons.1 hx with rfl | hx
    · exact ownsRow_mono ho hL
    · exact h1.all x hx
  · have := (ownsRow_lt ho hg).1
    have := (h.lt hy hy2).2
    omega
theorem RG.set (h : RG L0 T sz ((v, n, xs) :: rs) w) (hc : Chg (fun k => v.ownBlock = some k) w w') (ho : w'.ownsRow L0 T sz v n' xs') : RG L0 T sz ((v, n', xs') :: rs) w' := by
  obtain ⟨h1, h2⟩ := List.pairwise_cons.1 h.dj
  have h3 := h.drop.chg hc (fun x hx g hg e => h1 x hx g e hg)
  refine ⟨fun x hx => ?_, List.pairwise_cons.2 ⟨h1, h2⟩⟩
  rcases List.mem_cons.1 hx with rfl | hx
  · exact ho
  · exact h3.all x hx
theorem RG.perm {rs' : List RW} (h : RG L0 T sz rs w) (hp : rs.Perm rs') : RG L0 T sz rs' w := ⟨fun x hx => h.all x (hp.mem_iff.2 hx), (hp.pairwise_iff (fun hh g h1 h2 => hh g h2 h1)).1 h.dj⟩
end
/-- A slice that grows behind another one, in its block or apart. -/
structure GR (L0 T sz : Nat) (v : Value) (n : Nat) (xs : List Value) (rs : List RW) (x : Value) (m : Nat) (ys : List Value) (w : World) : Prop where
  rg : RG L0 T sz ((v, n, xs) :: rs) w
  row : w.ownsRow L0 T sz x m ys
  nm : n ≤ m
  ne : ∀ y ∈ rs, ∀ g, y.1.ownBlock = some g → x.ownBlock ≠ some g
theorem GR.start {L0 T sz : Nat} {v : Value} {n : Nat} {xs : List Value} {rs : List RW} {w : World} (h : RG L0 T sz ((v, n, xs) :: rs) w) : GR L0 T sz v n xs rs v n xs w := ⟨h, h.head, Nat.le_refl _, fun y hy g hg e => (List.pairwise_cons.1 h.dj).1 y hy g e hg⟩
theorem GR.app {L0 T sz : Nat} {v : Value} {n : Nat} {xs : List Value} {rs : List RW} {x : Value} {m : Nat} {ys : List Value} {w : World} (h : GR L0 T sz v n xs rs x m ys w) (t : TypeId) (z : Value) (bytes : Nat) (ht : Try.prog.underlying t = some (.slice T)) (hinfo : (Try.prog.info? T).map (fun i => (i.zero, i.size, i.bytes)) = some (some z, sz, bytes)) (hzz : z.cells.size = sz) (hs0 : 1 ≤ sz) (hb0 : 0 < bytes) (C : Array Value) (hC : C.size = sz) (hone : ∀ u ∈ C.toList, u.oneCell' = true) (hby2 : (m + 1) * bytes ≤ 140737488355328) (hL : L0 ≤ w.heap.size) :
    ∃ x' w', (∀ ty, (Builtin.append_ #[t, t] ty #[x, .slice (some ⟨w.heap.size, 0, none⟩) 1 1]).run Try.prog (w.alloc (.cells C T)) = .ok x' w') ∧ GR L0 T sz v n xs rs x' (m + 1) (ys ++ C.toList) w' ∧ Chg (fun k => x.ownBlock = some k) w w' ∧ (∀ g, x'.ownBlock = some g → x.ownBlock = some g ∨ w.heap.size ≤ g) := by
  have hown := h.row.alloc (.cells C T)
  obtain ⟨x', w', h1, h2, h3, h4⟩ := app_any t T z sz bytes ht hinfo hzz hs0 hb0 hown ⟨w.heap.size, 0, none⟩ 1 1 C.toList (by simp [hC]) (fun j u hu => by
    have hB : Blk (w.alloc (.cells C T)) w.heap.size C T := heap_alloc_new w _
    rw [addr_add, Nat.zero_add, hB.cell j]
    simpa using hu) hone hby2 (by rw [World.size_alloc]; omega) t
  have hg := h3.ofAlloc
  refine ⟨x', w', fun ty => h1, ⟨⟨fun y hy => ?_, h.rg.dj⟩, h2, by have := h.nm; omega, fun y hy g hy2 hx => ?_⟩, hg.chg, hg.at'⟩
  · by_cases hsame : y.1.ownBlock = x.ownBlock
    · rcases List.mem_cons.1 hy with rfl | hy
      · exact h4 _ _ _ _ h.nm hsame ((h.rg.head).alloc _)
      · cases hyo : y.1.ownBlock with
        | none =>
          refine ownsRow_same (h.rg.all y (List.mem_cons_of_mem _ hy)) (fun g hg => ?_)
          rw [hyo] at hg
          cases hg
        | some g => exact absurd (hsame.symm.trans hyo) (h.ne y hy g hyo)
    · refine ownsRow_same (h.rg.all y hy) (fun g hg' => hg.chg.block g (h.rg.lt hy hg').2 (fun e => hsame (hg'.trans e.symm)))
  · rcases hg.at' g hx with h5 | h5
    · exact h.ne y hy g hy2 h5
    · have := (h.rg.lt (List.mem_cons_of_mem _ hy) hy2).2
      omega
end Go.Proofs.Ytifgmefdlmjocaa
