import Derived.Test.YtifgmefdlmjocaaApn
namespace Go.Proofs.Ytifgmefdlmjocaa
open Go.RowKit Go.PlainAid Go.MapKept
set_option linter.unusedVariables false
set_option linter.unusedSimpArgs false
/-- An op that came in, at its place. -/
structure OpAt (w : World) (b o : Nat) (x : OpA) : Prop where
  c0 : w.cell? ⟨b, o, none⟩ = some (.int .i64 x.k)
  c1 : w.cell? ⟨b, o + 1, none⟩ = some (.int .i64 x.who)
  c2 : w.cell? ⟨b, o + 2, none⟩ = some (.int .i64 x.a)
  c3 : w.cell? ⟨b, o + 3, none⟩ = some (.int .i64 x.b)
  c4 : w.cell? ⟨b, o + 4, none⟩ = some (.int .i64 x.h)
  c5 : w.cell? ⟨b, o + 5, none⟩ = some (.string ⟨x.n.toArray⟩)
  c6 : w.cell? ⟨b, o + 6, none⟩ = some (.int .i64 x.d)
  c7 : w.cell? ⟨b, o + 7, none⟩ = some (.int .i64 x.u)
  c8 : w.cell? ⟨b, o + 8, none⟩ = some (.slice x.la x.K x.cap)
  f : FromV w x.la x.es
theorem OpAt.below {w w' : World} {b o : Nat} {x : OpA} (h : OpAt w b o x) (hb : Below w.heap.size w w') : OpAt w' b o x :=
  have k : ∀ j, w'.cell? ⟨b, j, none⟩ = w.cell? ⟨b, j, none⟩ := fun j => World.cell?_of_block (w := w) (hb.block b (World.block_lt_of_cell? w _ h.c0))
  ⟨(k _).trans h.c0, (k _).trans h.c1, (k _).trans h.c2, (k _).trans h.c3, (k _).trans h.c4, (k _).trans h.c5, (k _).trans h.c6, (k _).trans h.c7, (k _).trans h.c8, h.f.all hb⟩
structure PI where
  pb : Nat
  hb : Nat
  mb : Nat
  rb : Nat
  me : Int
structure PJ where
  v : Value
  L : List Ent
  A : List Ent
def nilS : Value := .slice none 0 0
def own2 (i : PI) (j : PJ) (k : Nat) : Prop := k = i.pb ∨ k = i.hb ∨ k = i.mb ∨ k = i.rb ∨ j.v.ownBlock = some k
structure In2 (L0 N M : Nat) (bk : Value) (i : PI) (j : PJ) (w : World) : Prop where
  pp : PP L0 i.pb i.hb i.mb i.rb M i.me N nilS nilS bk j.v j.L j.A w
  lo : L0 ≤ i.pb ∧ L0 ≤ i.hb ∧ L0 ≤ i.mb
section
variable {L0 N M : Nat} {bk : Value} {i : PI} {j : PJ} {w w' : World}
theorem In2.ge (h : In2 L0 N M bk i j w) {k : Nat} (hk : own2 i j k) : L0 ≤ k := by
  rcases hk with rfl | rfl | rfl | rfl | hk
  · exact h.lo.1
  · exact h.lo.2.1
  · exact h.lo.2.2
  · exact h.pp.rv.lo
  · exact (ownsRow_lt h.pp.rv.row hk).1
theorem In2.lt (h : In2 L0 N M bk i j w) {k : Nat} (hk : own2 i j k) : k < w.heap.size := by
  rcases hk with rfl | rfl | rfl | rfl | hk
  · exact h.pp.box.lt
  · exact h.pp.vw.blk.lt
  · exact h.pp.vw.map.lt
  · exact h.pp.rv.blk.lt
  · exact (ownsRow_lt h.pp.rv.row hk).2
theorem In2.keep (h : In2 L0 N M bk i j w) (hk : ∀ k, own2 i j k → w'.heap[k]? = w.heap[k]?) : In2 L0 N M bk i j w' :=
  ⟨⟨(hk _ (Or.inl rfl)).trans h.pp.box, ⟨(hk _ (Or.inr (Or.inl rfl))).trans h.pp.vw.blk, h.pp.vw.map.same (hk _ (Or.inr (Or.inr (Or.inl rfl))))⟩, h.pp.rv.keep (hk _ (Or.inr (Or.inr (Or.inr (Or.inl rfl))))) (fun g hg => hk g (Or.inr (Or.inr (Or.inr (Or.inr hg))))), h.pp.ag, h.pp.al⟩, h.lo⟩
theorem In2.more (h : In2 L0 N M bk i j w) (hb : Below w.heap.size w w') : In2 L0 N M bk i j w' := h.keep (fun k hk => hb.block k (h.lt hk))
theorem In2.mono (h : In2 L0 N M bk i j w) : In2 L0 N (M + 1) bk i j w := ⟨⟨h.pp.box, h.pp.vw, h.pp.rv, h.pp.ag.mono (Nat.le_succ _), by have := h.pp.al; omega⟩, h.lo⟩
theorem In2.chg {A : Nat → Prop} (h : In2 L0 N M bk i j w) (hc : Chg A w w') (hn : ∀ k, own2 i j k → ¬ A k) : In2 L0 N M bk i j w' := h.keep (fun k hk => hc.block k (h.lt hk) (hn k hk))
theorem In2.step (h : In2 L0 N M bk i j w) (hp : PPost L0 i.hb i.mb i.rb i.me N j.v (M + 1) w w') : ∃ j', In2 L0 N (M + 1) bk i j' w' ∧ Chg (own2 i j) w w' ∧ ∀ k, own2 i j' k → own2 i j k ∨ w.heap.size ≤ k := by
  obtain ⟨v', L', A', a, b, c, d, e, f⟩ := hp
  have hc : Chg (own2 i j) w w' := e.mono (fun k _ hk => by
    rcases hk with hk | hk | hk
    · exact Or.inr (Or.inr (Or.inl hk))
    · exact Or.inr (Or.inr (Or.inr (Or.inl hk)))
    · exact Or.inr (Or.inr (Or.inr (Or.inr hk))))
  refine ⟨⟨v', L', A'⟩, ⟨⟨e.blk h.pp.box (fun hh => ?_), a, b, c, d⟩, h.lo⟩, hc, fun k hk => ?_⟩
  · rcases hh with hh | hh | hh
    · exact h.pp.vw.map.ne_b h.pp.box hh
    · exact h.pp.box.ne_t h.pp.rv.blk (by decide) hh
    · exact h.pp.rv.own_ne h.pp.box (by decide) hh
  · rcases hk with hk | hk | hk | hk | hk
    · exact Or.inl (Or.inl hk)
    · exact Or.inl (Or.inr (Or.inl hk))
    · exact Or.inl (Or.inr (Or.inr (Or.inl hk)))
    · exact Or.inl (Or.inr (Or.inr (Or.inr (Or.inl hk))))
    · rcases f k hk with h1 | h1
      · exact Or.inl (Or.inr (Or.inr (Or.inr (Or.inr h1))))
      · exact Or.inr h1
theorem In2.book (h : In2 L0 N M bk i j w) {kb : Nat} {D : Array Value} (hB : Blk w kb D 90) : ¬ own2 i j kb := fun hk => by
  rcases hk with hk | hk | hk | hk | hk
  · exact hB.ne_t h.pp.box (by decide) hk
  · exact hB.ne_t h.pp.vw.blk (by decide) hk
  · exact h.pp.vw.map.ne_b hB hk
  · exact hB.ne_t h.pp.rv.blk (by decide) hk
  · exact h.pp.rv.own_ne hB (by decide) hk
theorem In2.oth (h : In2 L0 N M bk i j w) (hM : M ≤ 300) : Oth (.pointer (some ⟨i.pb, 0, none⟩)) w := Or.inr ⟨i.pb, L0, i.rb, M, i.me, N, j.v, j.L, j.A, rfl, ⟨_, _, _, _, h.pp.box⟩, h.pp.rv, h.pp.ag, by have := h.pp.al; omega⟩
theorem In2.setBook (h : In2 L0 N M bk i j w) (b' : Value) : In2 L0 N M b' i j (w.setCell ⟨i.pb, 4, none⟩ b') ∧ Chg (own2 i j) w (w.setCell ⟨i.pb, 4, none⟩ b') := by
  have hc := setCell_chg w i.pb 4 b'
  refine ⟨⟨⟨h.pp.box.set 4 b', h.pp.vw.keep hc (h.pp.vw.blk.ne_t h.pp.box (by decide)) (fun e => h.pp.vw.map.ne_b h.pp.box e.symm), h.pp.rv.keep (hc.block _ h.pp.rv.blk.lt (h.pp.rv.blk.ne_t h.pp.box (by decide))) (fun g hg => hc.block _ (ownsRow_lt h.pp.rv.row hg).2 (fun e => h.pp.rv.own_ne h.pp.box (by decide) (e ▸ hg))), h.pp.ag, h.pp.al⟩, h.lo⟩, hc.mono (fun k _ e => Or.inl e)⟩
theorem In2.fb (h : In2 L0 N M bk i j w) {la : Option Addr} {es : List Ent} {w0 : World} (hL : L0 = w0.heap.size) (hb : Below w0.heap.size w0 w) (hf : FromV w0 la es) : 0 < es.length → ∀ b off, la = some ⟨b, off, none⟩ → b < w.heap.size ∧ b ≠ i.mb ∧ b ≠ i.rb ∧ j.v.ownBlock ≠ some b := fun h0 b off e => by
  subst e
  have hlt := hf.lt h0
  refine ⟨Nat.lt_of_lt_of_le hlt hb.size, fun e => ?_, fun e => ?_, fun e => ?_⟩
  · have := h.lo.2.2; omega
  · have := h.pp.rv.lo; omega
  · have := (ownsRow_lt h.pp.rv.row e).1; omega
end
theorem In2.ofMade {pb hb mb rb bk n L0 : Nat} {me : Int} {w1 w2 : World} (hp : PP w1.heap.size pb hb mb rb 0 me n (.slice none 0 0) (.slice none 0 0) (.pointer (some ⟨bk, 0, none⟩)) (.slice none 0 0) [] [] w2) (hL : L0 ≤ w1.heap.size) (h1 : w1.heap.size ≤ pb) (h2 : w1.heap.size ≤ hb) (h3 : w1.heap.size ≤ mb) :
    In2 L0 n 0 (.pointer (some ⟨bk, 0, none⟩)) ⟨pb, hb, mb, rb, me⟩ ⟨.slice none 0 0, [], []⟩ w2 ∧ ∀ k, own2 ⟨pb, hb, mb, rb, me⟩ ⟨.slice none 0 0, [], []⟩ k → w1.heap.size ≤ k := by
  refine ⟨⟨⟨hp.box, hp.vw, ⟨hp.rv.blk, ownsRow_mono hp.rv.row hL, Nat.le_trans hL hp.rv.lo⟩, hp.ag, hp.al⟩, ⟨show L0 ≤ pb from by omega, show L0 ≤ hb from by omega, show L0 ≤ mb from by omega⟩⟩, fun k hk => ?_⟩
  rcases hk with rfl | rfl | rfl | rfl | hk
  · exact h1
  · exact h2
  · exact h3
  · exact hp.rv.lo
  · cases hk
def RunOk (Q : OpA → Prop) (ao : Option Addr) (Ns : Nat) (os : List OpA) (w : World) : Prop := os.length = Ns ∧ (∀ o ∈ os, o.ok) ∧ (0 < Ns → ∃ b off, ao = some ⟨b, off, none⟩ ∧ ∀ i o, os[i]? = some o → OpAt w b (off + i * 9) o)
end Go.Proofs.Ytifgmefdlmjocaa
namespace Go.Proofs.Ytifgmefdlmjocaa
open Go.RowKit Go.PlainAid Go.MapKept
set_option linter.unusedVariables false
set_option linter.unusedSimpArgs false
/-- Marks in a list of views, and of rights. -/
def mkV (base : Int) (n : Nat) : List Ent := (List.range n).map fun (i : Nat) => ⟨0, [], 0, 0, base - i, 0, 0, 0⟩
def mkR (b : Int) (n : Nat) : List (Int × Int) := (List.range n).map fun (i : Nat) => (-1 - (i : Int), b)
theorem mkV_len (base : Int) (n : Nat) : (mkV base n).length = n := by simp [mkV]
theorem mkR_len (b : Int) (n : Nat) : (mkR b n).length = n := by simp [mkR]
theorem mkV_at {base : Int} {n i : Nat} (h : i < n) : (mkV base n)[i]? = some ⟨0, [], 0, 0, base - i, 0, 0, 0⟩ := by simp [mkV, h]
theorem mkR_at {b : Int} {n i : Nat} (h : i < n) : (mkR b n)[i]? = some (-1 - (i : Int), b) := by simp [mkR, h]
theorem flatR_get : ∀ (rs : List (Int × Int)) (i : Nat) (p : Int × Int), rs[i]? = some p → (flatR rs)[i * 2]? = some (.int .i64 p.1) ∧ (flatR rs)[i * 2 + 1]? = some (.int .i64 p.2)
  | [], i, p, h => by simp at h
  | q :: t, 0, p, h => by
    simp at h
    subst h
    exact ⟨rfl, rfl⟩
  | q :: t, i + 1, p, h => by
    have ih := flatR_get t i p (by simpa using h)
    rw [flatR_cons]
    constructor
    · rw [show (i + 1) * 2 = i * 2 + 1 + 1 from by omega, List.getElem?_cons_succ, List.getElem?_cons_succ]
      exact ih.1
    · rw [show (i + 1) * 2 + 1 = i * 2 + 1 + 1 + 1 from by omega, List.getElem?_cons_succ, List.getElem?_cons_succ]
      exact ih.2
set_option maxRecDepth 100000 in
set_option maxHeartbeats 3200000 in
theorem marked_any {pb La Lb nd nk : Nat} {y0 y1 y4 dg kn : Value} (w : World) (hB : Blk w pb #[y0, y1, dg, kn, y4] 68) (hd : w.ownsRow La 46 7 dg nd (flatV (mkV (-1) nd))) (hk : w.ownsRow Lb 44 2 kn nk (flatR (mkR (-7) nk))) (h1 : nd ≤ 100000) (h2 : nk ≤ 100000) :
    Calls Try.prog 70 #[.pointer (some ⟨pb, 0, none⟩)] w fun e w' => e = .returned (.bool true) ∧ w' = w := by
  obtain ⟨da, dc, hdv, _, _, hdc⟩ := own_read hd
  subst hdv
  obtain ⟨ka, kc, hkv, _, _, hkc⟩ := own_read hk
  subst hkv
  have c2 : w.cell? ⟨pb, 2, none⟩ = some (.slice da nd dc) := hB.cell 2
  have c3 : w.cell? ⟨pb, 3, none⟩ = some (.slice ka nk kc) := hB.cell 3
  have HDC : Hid (0 < nd → ∃ g, da = some ⟨g, 0, none⟩ ∧ La ≤ g ∧ g < w.heap.size ∧ ∀ j u, (flatV (mkV (-1) nd))[j]? = some u → w.cell? ⟨g, j, none⟩ = some u) := hdc
  have HKC : Hid (0 < nk → ∃ g, ka = some ⟨g, 0, none⟩ ∧ Lb ≤ g ∧ g < w.heap.size ∧ ∀ j u, (flatR (mkR (-7) nk))[j]? = some u → w.cell? ⟨g, j, none⟩ = some u) := hkc
  clear hB hd hk hdc hkc
  go_enter Try.func70, Try.ntmps70
  go_wp2_with fail
  go_loopw [3] (fun i wr => ∃ q : Nat, q ≤ nd ∧ i = .int .i64 q ∧ wr = w) (fun i _ => nd - (intOf i).toNat)
  case atStart => exact ⟨0, Nat.zero_le _, rfl, rfl⟩
  case round =>
    obtain ⟨q, hq, rfl, hwr⟩ := hrel
    replace hwr := hwr.symm
    subst hwr
    by_cases hlt : q < nd
    · obtain ⟨g, hg, _, _, hc⟩ := HDC.out (by omega)
      subst hg
      have d0 : w.cell? ⟨g, q * 7, none⟩ = some (.string ⟨#[]⟩) := hc (q * 7) _ (flatV_get _ q 0 _ (mkV_at hlt) (by decide))
      have d3 : w.cell? ⟨g, q * 7 + 3, none⟩ = some (.int .i64 (-1 - (q : Int))) := hc (q * 7 + 3) _ (flatV_get _ q 3 _ (mkV_at hlt) (by decide))
      have hw : IntKind.i64.wrap (-1 - (q : Int)) = -1 - (q : Int) := by rw [IntKind.wrap_i64]; omega
      clear hc HDC
      go_wp2_with fail
      go_roundw
      case rel => exact ⟨q + 1, by omega, by go_num, by first | rfl | trivial⟩
      case measure => simp [intOf]; omega
    · clear HDC
      go_wp2_with fail
      go_loopw [4] (fun i wr => ∃ q : Nat, q ≤ nk ∧ i = .int .i64 q ∧ wr = w) (fun i _ => nk - (intOf i).toNat)
      case atStart => exact ⟨0, Nat.zero_le _, rfl, rfl⟩
      case round =>
        obtain ⟨p, hp, rfl, hwr⟩ := hrel
        replace hwr := hwr.symm
        subst hwr
        by_cases hlt2 : p < nk
        · obtain ⟨g, hg, _, _, hc⟩ := HKC.out (by omega)
          subst hg
          obtain ⟨e0, e1⟩ := flatR_get _ p _ (mkR_at (b := -7) hlt2)
          have d0 : w.cell? ⟨g, p * 2, none⟩ = some (.int .i64 (-1 - (p : Int))) := hc _ _ e0
          have d1 : w.cell? ⟨g, p * 2 + 1, none⟩ = some (.int .i64 (-7)) := hc _ _ e1
          have hw : IntKind.i64.wrap (-1 - (p : Int)) = -1 - (p : Int) := by rw [IntKind.wrap_i64]; omega
          clear hc HKC e0 e1
          go_wp2_with fail
          go_roundw
          case rel => exact ⟨p + 1, by omega, by go_num, by first | rfl | trivial⟩
          case measure => simp [intOf]; omega
        · clear HKC
          go_wp2_with fail
          go_ret
          exact ⟨rfl, rfl⟩
end Go.Proofs.Ytifgmefdlmjocaa
namespace Go.Proofs.Ytifgmefdlmjocaa
open Go.RowKit Go.PlainAid Go.MapKept
set_option linter.unusedVariables false
set_option linter.unusedSimpArgs false
/-- Rows of one type, no two in one block: a slice, its length, its cells. -/
abbrev RW := Value × Nat × List Value
structure RG (L0 T sz : Nat) (rs : List RW) (w : World) : Prop where
  all : ∀ x ∈ rs, w.ownsRow L0 T sz x.1 x.2.1 x.2.2
  dj : rs.Pairwise fun a b => ∀ g, a.1.ownBlock = some g → b.1.ownBlock ≠ some g
section
variable {L0 T sz : Nat} {rs : List RW} {w w' : World} {v v' : Value} {n n' : Nat} {xs xs' : List Value}
theorem RG.nil (L0 T sz : Nat) (w : World) : RG L0 T sz [] w := ⟨fun _ h => (by cases h), List.Pairwise.nil⟩
theorem RG.keep (h : RG L0 T sz rs w) (hk : ∀ x ∈ rs, ∀ g, x.1.ownBlock = some g → w'.heap[g]? = w.heap[g]?) : RG L0 T sz rs w' := ⟨fun x hx => ownsRow_same (h.all x hx) (hk x hx), h.dj⟩
theorem RG.lt (h : RG L0 T sz rs w) {x : RW} (hx : x ∈ rs) {g : Nat} (hg : x.1.ownBlock = some g) : L0 ≤ g ∧ g < w.heap.size := ownsRow_lt (h.all x hx) hg
theorem RG.more (h : RG L0 T sz rs w) (hb : Below w.heap.size w w') : RG L0 T sz rs w' := h.keep fun x hx g hg => hb.block g (h.lt hx hg).2
theorem RG.chg {A : Nat → Prop} (h : RG L0 T sz rs w) (hc : Chg A w w') (hn : ∀ x ∈ rs, ∀ g, x.1.ownBlock = some g → ¬ A g) : RG L0 T sz rs w' := h.keep fun x hx g hg => hc.block g (h.lt hx hg).2 (hn x hx g hg)
theorem RG.typ (h : RG L0 T sz rs w) {x : RW} (hx : x ∈ rs) {g : Nat} (hg : x.1.ownBlock = some g) : ∃ cu, Blk w g cu T := ownsRow_type (h.all x hx) hg
theorem RG.ne_t {b : Nat} {D : Array Value} {U : TypeId} (h : RG L0 T sz rs w) (hB : Blk w b D U) (hU : U ≠ T) {x : RW} (hx : x ∈ rs) {g : Nat} (hg : x.1.ownBlock = some g) : g ≠ b := fun e => by
  obtain ⟨cu, hcu⟩ := h.typ hx hg
  subst e
  exact hB.ne_t hcu hU rfl
theorem RG.drop {x : RW} (h : RG L0 T sz (x :: rs) w) : RG L0 T sz rs w := ⟨fun y hy => h.all y (List.mem_cons_of_mem _ hy), (List.pairwise_cons.1 h.dj).2⟩
theorem RG.head {x : RW} (h : RG L0 T sz (x :: rs) w) : w.ownsRow L0 T sz x.1 x.2.1 x.2.2 := h.all x (List.mem_cons_self ..)
theorem RG.fresh (h : RG L0 T sz rs w) (hb : Below w.heap.size w w') (hL : L0 ≤ w.heap.size) (ho : w'.ownsRow w.heap.size T sz v n xs) : RG L0 T sz ((v, n, xs) :: rs) w' := by
  have h1 := h.more hb
  refine ⟨fun x hx => ?_, List.pairwise_cons.2 ⟨fun y hy g hg hy2 => ?_, h1.dj⟩⟩
  · rcases List.mem_cons.1 hx with rfl | hx
    · exact ownsRow_mono ho hL
    · exact h1.all x hx
  · have := (ownsRow_lt ho hg).1
    have := (h.lt hy hy2).2
    omega
theorem RG.set (h : RG L0 T sz ((v, n, xs) :: rs) w) (hc : Chg (fun k => v.ownBlock = some k) w w') (ho : w'.ownsRow L0 T sz v n' xs') : RG L0 T sz ((v, n', xs') :: rs) w' := by
  obtain ⟨h1, h2⟩ := List.pairwise_cons.1 h.dj
  have h3 := h.drop.chg hc (fun x hx g hg e => h1 x hx g e hg)
  refine ⟨fun x hx => ?_, List.pairwise_cons.2 ⟨h1, h2⟩⟩
  rcases List.mem_cons.1 hx with rfl | hx
  · exact ho
  · exact h3.all x hx
theorem RG.perm {rs' : List RW} (h : RG L0 T sz rs w) (hp : rs.Perm rs') : RG L0 T sz rs' w := ⟨fun x hx => h.all x (hp.mem_iff.2 hx), (hp.pairwise_iff (fun hh g h1 h2 => hh g h2 h1)).1 h.dj⟩
end
/-- A slice that grows behind another one, in its block or apart. -/
structure GR (L0 T sz : Nat) (v : Value) (n : Nat) (xs : List Value) (rs : List RW) (x : Value) (m : Nat) (ys : List Value) (w : World) : Prop where
  rg : RG L0 T sz ((v, n, xs) :: rs) w
  row : w.ownsRow L0 T sz x m ys
  nm : n ≤ m
  ne : ∀ y ∈ rs, ∀ g, y.1.ownBlock = some g → x.ownBlock ≠ some g
theorem GR.start {L0 T sz : Nat} {v : Value} {n : Nat} {xs : List Value} {rs : List RW} {w : World} (h : RG L0 T sz ((v, n, xs) :: rs) w) : GR L0 T sz v n xs rs v n xs w := ⟨h, h.head, Nat.le_refl _, fun y hy g hg e => (List.pairwise_cons.1 h.dj).1 y hy g e hg⟩
theorem GR.app {L0 T sz : Nat} {v : Value} {n : Nat} {xs : List Value} {rs : List RW} {x : Value} {m : Nat} {ys : List Value} {w : World} (h : GR L0 T sz v n xs rs x m ys w) (t : TypeId) (z : Value) (bytes : Nat) (ht : Try.prog.underlying t = some (.slice T)) (hinfo : (Try.prog.info? T).map (fun i => (i.zero, i.size, i.bytes)) = some (some z, sz, bytes)) (hzz : z.cells.size = sz) (hs0 : 1 ≤ sz) (hb0 : 0 < bytes) (C : Array Value) (hC : C.size = sz) (hone : ∀ u ∈ C.toList, u.oneCell' = true) (hby2 : (m + 1) * bytes ≤ 140737488355328) (hL : L0 ≤ w.heap.size) :
    ∃ x' w', (∀ ty, (Builtin.append_ #[t, t] ty #[x, .slice (some ⟨w.heap.size, 0, none⟩) 1 1]).run Try.prog (w.alloc (.cells C T)) = .ok x' w') ∧ GR L0 T sz v n xs rs x' (m + 1) (ys ++ C.toList) w' ∧ Chg (fun k => x.ownBlock = some k) w w' ∧ (∀ g, x'.ownBlock = some g → x.ownBlock = some g ∨ w.heap.size ≤ g) := by
  have hown := h.row.alloc (.cells C T)
  obtain ⟨x', w', h1, h2, h3, h4⟩ := app_any t T z sz bytes ht hinfo hzz hs0 hb0 hown ⟨w.heap.size, 0, none⟩ 1 1 C.toList (by simp [hC]) (fun j u hu => by
    have hB : Blk (w.alloc (.cells C T)) w.heap.size C T := heap_alloc_new w _
    rw [addr_add, Nat.zero_add, hB.cell j]
    simpa using hu) hone hby2 (by rw [World.size_alloc]; omega) t
  have hg := h3.ofAlloc
  refine ⟨x', w', fun ty => h1, ⟨⟨fun y hy => ?_, h.rg.dj⟩, h2, by have := h.nm; omega, fun y hy g hy2 hx => ?_⟩, hg.chg, hg.at'⟩
  · by_cases hsame : y.1.ownBlock = x.ownBlock
    · rcases List.mem_cons.1 hy with rfl | hy
      · exact h4 _ _ _ _ h.nm hsame ((h.rg.head).alloc _)
      · cases hyo : y.1.ownBlock with
        | none =>
          refine ownsRow_same (h.rg.all y (List.mem_cons_of_mem _ hy)) (fun g hg => ?_)
          rw [hyo] at hg
          cases hg
        | some g => exact absurd (hsame.symm.trans hyo) (h.ne y hy g hyo)
    · refine ownsRow_same (h.rg.all y hy) (fun g hg' => hg.chg.block g (h.rg.lt hy hg').2 (fun e => hsame (hg'.trans e.symm)))
  · rcases hg.at' g hx with h5 | h5
    · exact h.ne y hy g hy2 h5
    · have := (h.rg.lt (List.mem_cons_of_mem _ hy) hy2).2
      omega
end Go.Proofs.Ytifgmefdlmjocaa
