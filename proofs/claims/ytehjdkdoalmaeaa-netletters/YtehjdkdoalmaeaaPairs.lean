import Derived.Test.YtehjdkdoalmaeaaTail
import Derived.Test.YtehjdkdoalmaeaaRRef
import Derived.Test.YtehjdkdoalmaeaaDbl
import Derived.Test.YtehjdkdoalmaeaaArgsO
import Derived.Test.YtehjdkdoalmaeaaHon0
namespace Go.Proofs.Ytehjdkdoalmaeaa
open Go.RowKit Go.PlainAid
set_option linter.unusedVariables false
set_option linter.unusedSimpArgs false

/-- Bytes in a row of their own. -/
structure Dat where
  d : Value
  bs : List UInt8
/-- The law's pair: both bags, the answers that are just under way, the answers written full with a mark, what was lent, the answers left alone. -/
structure PS where
  v : Value
  vr : Value
  vb : Value
  vm : Value
  vl : Value
  vf : Value
  vw : Value
  lv : List LetV
  lr : List LetV
  fl : List Dat
  ks : List Dat
  ms : List Int
  ls : List Dat
  ws : List (List UInt8)
  lent : List UInt8
  mark : Int
  turns : Int
  size : Int
def PS.part1 (s : PS) : List Value := s.v :: (s.lv.map LetV.d ++ s.fl.map Dat.d)
def PS.part2 (s : PS) : List Value := s.vr :: s.lr.map LetV.d
def PS.part3 (s : PS) : List Value := s.vb :: s.vm :: s.vl :: s.vf :: s.vw :: (s.ks.map Dat.d ++ s.ls.map Dat.d)
def PS.vals (s : PS) : List Value := s.part1 ++ (s.part2 ++ s.part3)
def PS.foot (s : PS) : List Nat := s.vals.filterMap Value.ownBlock
def pairC (hbn hbr : Nat) (s : PS) : Array Value := #[.pointer (some ⟨hbn, 0, none⟩), .pointer (some ⟨hbr, 0, none⟩), s.vb, .int .i64 s.mark, s.vm, s.vl, s.vf, s.vw, .int .i64 s.turns, .int .i64 s.size]
structure PInv (L pb hbn hbr room : Nat) (s : PS) (w : World) : Prop where
  box : w.heap[pb]? = some (.cells (pairC hbn hbr s) 65 (0, 0))
  bag : Bag L hbn room s.v s.lv w
  ref : RBag L hbr room s.vr s.lr w
  bytes : Tail w L 29 s.vb s.ks.length (s.ks.map Dat.d)
  marks : Tail w L 3 s.vm s.ms.length (s.ms.map fun x => Value.int .i64 x)
  kept : ∀ x ∈ s.ks, w.ownsRow L 5 1 x.d x.bs.length (x.bs.map B)
  lentO : w.ownsRow L 5 1 s.vl s.lent.length (s.lent.map B)
  left : Tail w L 29 s.vf s.ls.length (s.ls.map Dat.d)
  were : Tail w L 9 s.vw s.ws.length (s.ws.map Str)
  lefts : ∀ x ∈ s.ls, w.ownsRow L 5 1 x.d x.bs.length (x.bs.map B)
  float : ∀ x ∈ s.fl, w.ownsRow L 5 1 x.d x.bs.length (x.bs.map B)
  nodup : s.foot.Nodup
/-- Both bags hold the same letters. -/
structure PAg (room : Nat) (s : PS) : Prop where
  keys : s.lv.map LetV.k = s.lr.map LetV.k
  len : s.lv.length ≤ room
  small : ∀ x ∈ s.lv, x.bs.length ≤ 1048576
/-- The answers are as they were left. -/
structure PFull (s : PS) : Prop where
  lens : s.ms.length = s.ks.length
  full : ∀ (i : Nat) (x : Dat) (m : Int), s.ks[i]? = some x → s.ms[i]? = some m → ∀ u ∈ x.bs, (u.toNat : Int) = m % 256
  few : s.ks.length ≤ 7
  short : ∀ x ∈ s.ks, x.bs.length ≤ 9000000
  same : s.ws = s.ls.map Dat.bs
def PS.has (s : PS) (pb hbn hbr k : Nat) : Prop := k = pb ∨ k = hbn ∨ k = hbr ∨ k ∈ s.foot
theorem foot_of {s : PS} {u : Value} (hu : u ∈ s.vals) {k : Nat} (hk : u.ownBlock = some k) : k ∈ s.foot := List.mem_filterMap.2 ⟨u, hu, hk⟩
section
variable {L pb hbn hbr room : Nat} {s : PS} {w w' : World}
/-- What leaves the pair's memory as it was leaves the pair as it was. -/
theorem PInv.keep (h : PInv L pb hbn hbr room s w) (hk : ∀ k, s.has pb hbn hbr k → w'.heap[k]? = w.heap[k]?) : PInv L pb hbn hbr room s w' := by
  have hv : ∀ u ∈ s.vals, ∀ g, u.ownBlock = some g → w'.heap[g]? = w.heap[g]? := fun u hu g hg => hk g (Or.inr (Or.inr (Or.inr (foot_of hu hg))))
  have m1 : ∀ x ∈ s.lv, x.d ∈ s.vals := fun x hx => by simp only [PS.vals, PS.part1, List.mem_append, List.mem_cons, List.mem_map]; exact Or.inl (Or.inr (Or.inl ⟨x, hx, rfl⟩))
  have m5 : ∀ x ∈ s.fl, x.d ∈ s.vals := fun x hx => by simp only [PS.vals, PS.part1, List.mem_append, List.mem_cons, List.mem_map]; exact Or.inl (Or.inr (Or.inr ⟨x, hx, rfl⟩))
  have m2 : ∀ x ∈ s.lr, x.d ∈ s.vals := fun x hx => by simp only [PS.vals, PS.part2, List.mem_append, List.mem_cons, List.mem_map]; exact Or.inr (Or.inl (Or.inr ⟨x, hx, rfl⟩))
  have m3 : ∀ x ∈ s.ks, x.d ∈ s.vals := fun x hx => by simp only [PS.vals, PS.part3, List.mem_append, List.mem_cons, List.mem_map]; exact Or.inr (Or.inr (Or.inr (Or.inr (Or.inr (Or.inr (Or.inr (Or.inl ⟨x, hx, rfl⟩)))))))
  have m4 : ∀ x ∈ s.ls, x.d ∈ s.vals := fun x hx => by simp only [PS.vals, PS.part3, List.mem_append, List.mem_cons, List.mem_map]; exact Or.inr (Or.inr (Or.inr (Or.inr (Or.inr (Or.inr (Or.inr (Or.inr ⟨x, hx, rfl⟩)))))))
  refine ⟨(hk pb (Or.inl rfl)).trans h.box, ⟨(hk hbn (Or.inr (Or.inl rfl))).trans h.bag.blk, ownsRow_same h.bag.own (hv _ (by simp [PS.vals, PS.part1, PS.part2, PS.part3])), fun x hx => ownsRow_same (h.bag.dat x hx) (hv _ (m1 x hx))⟩,
    ⟨(hk hbr (Or.inr (Or.inr (Or.inl rfl)))).trans h.ref.blk, ownsRow_same h.ref.own (hv _ (by simp [PS.vals, PS.part1, PS.part2, PS.part3])), fun x hx => ownsRow_same (h.ref.dat x hx) (hv _ (m2 x hx))⟩,
    tail_same h.bytes (hv _ (by simp [PS.vals, PS.part1, PS.part2, PS.part3])), tail_same h.marks (hv _ (by simp [PS.vals, PS.part1, PS.part2, PS.part3])), fun x hx => ownsRow_same (h.kept x hx) (hv _ (m3 x hx)),
    ownsRow_same h.lentO (hv _ (by simp [PS.vals, PS.part1, PS.part2, PS.part3])), tail_same h.left (hv _ (by simp [PS.vals, PS.part1, PS.part2, PS.part3])), tail_same h.were (hv _ (by simp [PS.vals, PS.part1, PS.part2, PS.part3])), fun x hx => ownsRow_same (h.lefts x hx) (hv _ (m4 x hx)), fun x hx => ownsRow_same (h.float x hx) (hv _ (m5 x hx)), h.nodup⟩
/-- Each value's row: a row of its type, above the law's memory. -/
theorem PInv.row (h : PInv L pb hbn hbr room s w) (u : Value) (hu : u ∈ s.vals) (k : Nat) (hb : u.ownBlock = some k) : (∃ cur T, w.heap[k]? = some (.cells cur T (0, 0)) ∧ T ≠ 54 ∧ T ≠ 65 ∧ T ≠ 73) ∧ k < w.heap.size := by
  have own : ∀ {e sz n : Nat} {xs : List Value}, w.ownsRow L e sz u n xs → e ≠ 54 → e ≠ 65 → e ≠ 73 → (∃ cur T, w.heap[k]? = some (.cells cur T (0, 0)) ∧ T ≠ 54 ∧ T ≠ 65 ∧ T ≠ 73) ∧ k < w.heap.size := fun ho a b c => by
    obtain ⟨cur, hc⟩ := ownsRow_type ho hb
    exact ⟨⟨cur, _, hc, a, b, c⟩, (ho.lt k hb).2⟩
  have tl : ∀ {e n : Nat} {xs : List Value}, Tail w L e u n xs → e ≠ 54 → e ≠ 65 → e ≠ 73 → (∃ cur T, w.heap[k]? = some (.cells cur T (0, 0)) ∧ T ≠ 54 ∧ T ≠ 65 ∧ T ≠ 73) ∧ k < w.heap.size := fun ho a b c => by
    obtain ⟨_, cur, hc⟩ := tail_blk ho hb
    exact ⟨⟨cur, _, hc, a, b, c⟩, (tail_lt ho k hb).2⟩
  simp only [PS.vals, PS.part1, PS.part2, PS.part3, List.mem_cons, List.mem_append, List.mem_map] at hu
  rcases hu with (rfl | ⟨x, hx, rfl⟩ | ⟨x, hx, rfl⟩) | (rfl | ⟨x, hx, rfl⟩) | rfl | rfl | rfl | rfl | rfl | ⟨x, hx, rfl⟩ | ⟨x, hx, rfl⟩
  · exact own h.bag.own (by decide) (by decide) (by decide)
  · exact own (h.bag.dat x hx) (by decide) (by decide) (by decide)
  · exact own (h.float x hx) (by decide) (by decide) (by decide)
  · exact own h.ref.own (by decide) (by decide) (by decide)
  · exact own (h.ref.dat x hx) (by decide) (by decide) (by decide)
  · exact tl h.bytes (by decide) (by decide) (by decide)
  · exact tl h.marks (by decide) (by decide) (by decide)
  · exact own h.lentO (by decide) (by decide) (by decide)
  · exact tl h.left (by decide) (by decide) (by decide)
  · exact tl h.were (by decide) (by decide) (by decide)
  · exact own (h.kept x hx) (by decide) (by decide) (by decide)
  · exact own (h.lefts x hx) (by decide) (by decide) (by decide)
/-- All of it lies below the heap's end. -/
theorem PInv.lt (h : PInv L pb hbn hbr room s w) (k : Nat) (hk : s.has pb hbn hbr k) : k < w.heap.size := by
  rcases hk with rfl | rfl | rfl | hk
  · exact (Array.getElem?_eq_some_iff.1 h.box).1
  · exact h.bag.lt
  · exact h.ref.lt
  · obtain ⟨u, hu, hb⟩ := List.mem_filterMap.1 hk
    exact (h.row u hu k hb).2
theorem PInv.below (h : PInv L pb hbn hbr room s w) (hb : Below w.heap.size w w') : PInv L pb hbn hbr room s w' := h.keep fun k hk => hb.block k (h.lt k hk)
theorem PInv.drewN (h : PInv L pb hbn hbr room s w) (q : Nat) : PInv L pb hbn hbr room s (w.drewN q) := h.keep fun _ _ => rfl
theorem PInv.cell (h : PInv L pb hbn hbr room s w) (j : Nat) : w.cell? ⟨pb, j, none⟩ = (pairC hbn hbr s)[j]? := cell_of_row w pb j _ 65 (0, 0) h.box
end

set_option maxRecDepth 100000 in
set_option maxHeartbeats 3200000 in
/-- stands: the answers are as they were left. -/
theorem stands_any {L pb hbn hbr room : Nat} {s : PS} (w : World) (h : PInv L pb hbn hbr room s w) (hF : PFull s) :
    Calls Try.prog 24 #[.pointer (some ⟨pb, 0, none⟩)] w fun e w' => e = .returned (.bool true) ∧ ∃ q, w' = w.drewN q := by
  obtain ⟨vbo, vbc, hvb, _, hbat⟩ := tail_form h.bytes
  obtain ⟨vmo, vmc, hvm, _, hmat⟩ := tail_form h.marks
  have c2 : w.cell? ⟨pb, 2, none⟩ = some (.slice vbo s.ks.length vbc) := by rw [h.cell 2, ← hvb]; rfl
  have c4 : w.cell? ⟨pb, 4, none⟩ = some (.slice vmo s.ms.length vmc) := by rw [h.cell 4, ← hvm]; rfl
  have hkept := h.kept
  have hn := hF.few
  rw [hF.lens] at hvm c4 hmat
  clear h
  go_enter Try.func24, Try.ntmps24
  go_wp2
  go_loopw [3, 4] (fun i _ wr => ∃ k q : Nat, k ≤ s.ks.length ∧ i = .int .i64 k ∧ wr = w.drewN q) (fun i _ _ => s.ks.length - (intOf i).toNat)
  case atStart => exact ⟨0, 0, Nat.zero_le _, rfl, rfl⟩
  case round =>
    obtain ⟨k, q, hk, rfl, rfl⟩ := hrel
    have d2 : (w.drewN q).cell? ⟨pb, 2, none⟩ = some (.slice vbo s.ks.length vbc) := c2
    have d4 : (w.drewN q).cell? ⟨pb, 4, none⟩ = some (.slice vmo s.ks.length vmc) := c4
    by_cases hlt : k < s.ks.length
    · obtain ⟨⟨d, bs⟩, hx⟩ : ∃ x, s.ks[k]? = some x := ⟨s.ks[k]'hlt, List.getElem?_eq_getElem _⟩
      obtain ⟨mk, hx2⟩ : ∃ x, s.ms[k]? = some x := ⟨s.ms[k]'(by rw [hF.lens]; exact hlt), List.getElem?_eq_getElem _⟩
      obtain ⟨g, off, rfl, hc⟩ := hbat (by omega)
      obtain ⟨g2, off2, rfl, hc2⟩ := hmat (by omega)
      have e1 := hc k d (by rw [List.getElem?_map, hx]; rfl)
      have e2 := hc2 k (.int .i64 mk) (by rw [List.getElem?_map, hx2]; rfl)
      have ho := hkept _ (List.mem_of_getElem? hx)
      have hmk := hF.full k _ mk hx hx2
      have hbl := hF.short _ (List.mem_of_getElem? hx)
      simp only at ho hmk hbl
      obtain ⟨dao, dcap, rfl, _, _, hf, _⟩ := own_from ho
      have HF : Hid _ := hf
      have HM : Hid _ := hmk
      have HK : Hid _ := hkept
      clear hc hc2 hbat hmat ho hf hmk hkept
      go_wp2
      go_loopw [4] (fun j wr => ∃ j' q' : Nat, j' ≤ bs.length ∧ j = .int .i64 j' ∧ wr = w.drewN q') (fun j _ => bs.length - (intOf j).toNat)
      case atStart => exact ⟨0, q, Nat.zero_le _, rfl, rfl⟩
      case round =>
        obtain ⟨j, q', hj, rfl, rfl⟩ := hrel
        have p2 : (w.drewN q').cell? ⟨pb, 2, none⟩ = some (.slice (some ⟨g, off, none⟩) s.ks.length vbc) := c2
        have p4 : (w.drewN q').cell? ⟨pb, 4, none⟩ = some (.slice (some ⟨g2, off2, none⟩) s.ks.length vmc) := c4
        have p5 : (w.drewN q').cell? ⟨g, off + k, none⟩ = some (.slice dao bs.length dcap) := e1
        have p6 : (w.drewN q').cell? ⟨g2, off2 + k, none⟩ = some (.int .i64 mk) := e2
        by_cases hjl : j < bs.length
        · obtain ⟨u, hu⟩ : ∃ u, bs[j]? = some u := ⟨bs[j]'hjl, List.getElem?_eq_getElem _⟩
          obtain ⟨b, o, rfl, hcc⟩ := HF.out (by omega)
          have e7 : w.cell? ⟨b, o + j, none⟩ = some (.int .u8 (u.toNat : Int)) := hcc j u hu
          have p7 : (w.drewN q').cell? ⟨b, o + j, none⟩ = some (.int .u8 (u.toNat : Int)) := e7
          have hmu := (HM.out u (List.mem_of_getElem? hu)).symm
          clear hcc hu
          go_wp2
          go_quiet (fail)
          go_wp2
          go_roundw
          case rel => exact ⟨j + 1, _, by omega, by go_num, rfl⟩
          case measure => simp [intOf]; omega
        · go_wp2
          go_roundw
          case rel => exact ⟨k + 1, _, by omega, by go_num, rfl⟩
          case measure => simp [intOf]; omega
    · go_wp2
      go_ret
      exact ⟨rfl, _, rfl⟩
end Go.Proofs.Ytehjdkdoalmaeaa
namespace Go.Proofs.Ytehjdkdoalmaeaa
open Go.RowKit Go.PlainAid
set_option linter.unusedVariables false
set_option linter.unusedSimpArgs false

def blocks (l : List Value) : List Nat := l.filterMap Value.ownBlock
theorem mem_blocks {l : List Value} {k : Nat} : k ∈ blocks l ↔ ∃ u ∈ l, u.ownBlock = some k := List.mem_filterMap
theorem blocks_append (a b : List Value) : blocks (a ++ b) = blocks a ++ blocks b := List.filterMap_append
/-- A part of the values is exchanged for others: what stood in it, or new rows. -/
theorem nodup_step {A A' C : List Value} {H : Nat} (hn : (blocks (A ++ C)).Nodup) (hlt : ∀ u ∈ A ++ C, ∀ k, u.ownBlock = some k → k < H) (hA : (blocks A').Nodup) (hsub : ∀ k ∈ blocks A', k ∈ blocks A ∨ H ≤ k) : (blocks (A' ++ C)).Nodup := by
  rw [blocks_append] at hn ⊢
  obtain ⟨h1, h2, h3⟩ := List.nodup_append.1 hn
  refine List.nodup_append.2 ⟨hA, h2, fun k hk k' hk' e => ?_⟩
  subst e
  rcases hsub k hk with h | h
  · exact h3 k h k hk' rfl
  · obtain ⟨u, hu, hb⟩ := mem_blocks.1 hk'
    have := hlt u (List.mem_append.2 (Or.inr hu)) k hb
    omega
theorem blocks_perm {a b : List Value} (h : a.Perm b) : (blocks a).Perm (blocks b) := h.filterMap _
section
variable {L pb hbn hbr room : Nat} {s : PS} {w w' : World}
theorem PInv.blt (h : PInv L pb hbn hbr room s w) : ∀ u ∈ s.vals, ∀ k, u.ownBlock = some k → k < w.heap.size := fun u hu k hk => (h.row u hu k hk).2
theorem PInv.pblt (h : PInv L pb hbn hbr room s w) : pb < w.heap.size := (Array.getElem?_eq_some_iff.1 h.box).1
theorem PInv.pbne (h : PInv L pb hbn hbr room s w) : pb ≠ hbn ∧ pb ≠ hbr ∧ hbn ≠ hbr := by
  refine ⟨fun e => ?_, fun e => ?_, fun e => ?_⟩
  · have := h.box; rw [e, h.bag.blk] at this; simp at this
  · have := h.box; rw [e, h.ref.blk] at this; simp at this
  · have := h.bag.blk; rw [e, h.ref.blk] at this; simp at this
/-- A value of another part than v's is apart from v and from the boxes. -/
theorem PInv.apart1 (h : PInv L pb hbn hbr room s w) (u : Value) (hu : u ∈ s.part2 ++ s.part3) (k : Nat) (hk : u.ownBlock = some k) : k ≠ hbn ∧ s.v.ownBlock ≠ some k := by
  refine ⟨fun e => ?_, fun e => ?_⟩
  · obtain ⟨⟨cur, T, hc, h1, _⟩, _⟩ := h.row u (List.mem_append.2 (Or.inr hu)) k hk
    rw [e, h.bag.blk] at hc
    cases hc
    exact h1 rfl
  · have hn := h.nodup
    unfold PS.foot PS.vals at hn
    rw [List.filterMap_append] at hn
    exact (List.nodup_append.1 hn).2.2 k (List.mem_filterMap.2 ⟨s.v, by simp [PS.part1], e⟩) k (List.mem_filterMap.2 ⟨u, hu, hk⟩) rfl
/-- A call of the bag. -/
theorem PInv.bagStep {v' : Value} {lv' : List LetV} {fl' : List Dat} (h : PInv L pb hbn hbr room s w) (hB : Bag L hbn room v' lv' w') (hst : Stp hbn s.v v' w w') (hfl : ∀ x ∈ fl', w'.ownsRow L 5 1 x.d x.bs.length (x.bs.map B))
    (hA : (blocks (v' :: (lv'.map LetV.d ++ fl'.map Dat.d))).Nodup) (hsub : ∀ k ∈ blocks (v' :: (lv'.map LetV.d ++ fl'.map Dat.d)), k ∈ blocks s.part1 ∨ w.heap.size ≤ k) :
    PInv L pb hbn hbr room { s with v := v', lv := lv', fl := fl' } w' := by
  obtain ⟨n1, n2, n3⟩ := h.pbne
  have hbox : ∀ k, k < w.heap.size → k ≠ hbn → (∃ cur T, w.heap[k]? = some (.cells cur T (0, 0)) ∧ T ≠ 31) → w'.heap[k]? = w.heap[k]? := fun k hk h1 ⟨cur, T, hc, h2⟩ => hst.block k hk h1 fun e => by
    obtain ⟨c2, q2⟩ := ownsRow_type h.bag.own e
    rw [q2] at hc
    cases hc
    exact h2 rfl
  have hv : ∀ u ∈ s.part2 ++ s.part3, ∀ g, u.ownBlock = some g → w'.heap[g]? = w.heap[g]? := fun u hu g hg => hst.block g (h.blt u (List.mem_append.2 (Or.inr hu)) g hg) (h.apart1 u hu g hg).1 (h.apart1 u hu g hg).2
  have m2 : ∀ x ∈ s.lr, x.d ∈ s.part2 ++ s.part3 := fun x hx => by simp only [PS.part2, List.mem_append, List.mem_cons, List.mem_map]; exact Or.inl (Or.inr ⟨x, hx, rfl⟩)
  have m3 : ∀ x ∈ s.ks, x.d ∈ s.part2 ++ s.part3 := fun x hx => by simp only [PS.part3, List.mem_append, List.mem_cons, List.mem_map]; exact Or.inr (Or.inr (Or.inr (Or.inr (Or.inr (Or.inr (Or.inl ⟨x, hx, rfl⟩))))))
  have m4 : ∀ x ∈ s.ls, x.d ∈ s.part2 ++ s.part3 := fun x hx => by simp only [PS.part3, List.mem_append, List.mem_cons, List.mem_map]; exact Or.inr (Or.inr (Or.inr (Or.inr (Or.inr (Or.inr (Or.inr ⟨x, hx, rfl⟩))))))
  refine ⟨(hbox pb h.pblt n1 ⟨_, _, h.box, by decide⟩).trans h.box, hB,
    ⟨(hbox hbr h.ref.lt n3.symm ⟨_, _, h.ref.blk, by decide⟩).trans h.ref.blk, ownsRow_same h.ref.own (hv _ (by simp [PS.part2, PS.part3])), fun x hx => ownsRow_same (h.ref.dat x hx) (hv _ (m2 x hx))⟩,
    tail_same h.bytes (hv _ (by simp [PS.part2, PS.part3])), tail_same h.marks (hv _ (by simp [PS.part2, PS.part3])), fun x hx => ownsRow_same (h.kept x hx) (hv _ (m3 x hx)),
    ownsRow_same h.lentO (hv _ (by simp [PS.part2, PS.part3])), tail_same h.left (hv _ (by simp [PS.part2, PS.part3])), tail_same h.were (hv _ (by simp [PS.part2, PS.part3])), fun x hx => ownsRow_same (h.lefts x hx) (hv _ (m4 x hx)), hfl, ?_⟩
  exact nodup_step (A := s.part1) (C := s.part2 ++ s.part3) h.nodup h.blt hA hsub
end
end Go.Proofs.Ytehjdkdoalmaeaa
namespace Go.Proofs.Ytehjdkdoalmaeaa
open Go.RowKit Go.PlainAid
set_option linter.unusedVariables false
set_option linter.unusedSimpArgs false

theorem nodup_part {v v' : Value} {X X' news : List Value} {H : Nat} (hn : (blocks (v :: X)).Nodup) (hlt : ∀ u ∈ v :: X, ∀ k, u.ownBlock = some k → k < H) (hv : ∀ j, v'.ownBlock = some j → v.ownBlock = some j ∨ H ≤ j)
    (hnew : ∀ u ∈ news, ∀ j, u.ownBlock = some j → H ≤ j) (hnn : (blocks news).Nodup) (hvn : ∀ u ∈ news, ∀ j, u.ownBlock = some j → v'.ownBlock ≠ some j) (hp : X'.Perm (news ++ X)) :
    (blocks (v' :: X')).Nodup ∧ ∀ k ∈ blocks (v' :: X'), k ∈ blocks (v :: X) ∨ H ≤ k := by
  have hX : (blocks X).Nodup := by
    have : blocks (v :: X) = blocks [v] ++ blocks X := blocks_append [v] X
    rw [this] at hn
    exact (List.nodup_append.1 hn).2.1
  have hvX : ∀ j, v.ownBlock = some j → j ∉ blocks X := fun j hj hx => by
    have : blocks (v :: X) = blocks [v] ++ blocks X := blocks_append [v] X
    rw [this] at hn
    exact (List.nodup_append.1 hn).2.2 j (mem_blocks.2 ⟨v, by simp, hj⟩) j hx rfl
  have hXlt : ∀ k ∈ blocks X, k < H := fun k hk => by
    obtain ⟨u, hu, hb⟩ := mem_blocks.1 hk
    exact hlt u (by simp [hu]) k hb
  have hnlt : ∀ k ∈ blocks news, H ≤ k := fun k hk => by
    obtain ⟨u, hu, hb⟩ := mem_blocks.1 hk
    exact hnew u hu k hb
  have hpb := blocks_perm hp
  rw [blocks_append] at hpb
  have hnX : (blocks news ++ blocks X).Nodup := List.nodup_append.2 ⟨hnn, hX, fun a ha b hb e => by have := hnlt a ha; have := hXlt b hb; omega⟩
  have e1 : blocks (v' :: X') = blocks [v'] ++ blocks X' := blocks_append [v'] X'
  have e2 : blocks (v :: X) = blocks [v] ++ blocks X := blocks_append [v] X
  have hv1 : ∀ k, k ∈ blocks [v'] ↔ v'.ownBlock = some k := fun k => by rw [mem_blocks]; simp
  have hv2 : ∀ k, k ∈ blocks [v] ↔ v.ownBlock = some k := fun k => by rw [mem_blocks]; simp
  have hone : (blocks [v']).Nodup := by
    unfold blocks
    cases hq : v'.ownBlock with
    | none => simp [hq]
    | some j => simp [hq]
  rw [e1, e2]
  refine ⟨List.nodup_append.2 ⟨hone, (hpb.nodup_iff).2 hnX, fun a ha b hb e => ?_⟩, fun k hk => ?_⟩
  · subst e
    have hva := (hv1 a).1 ha
    rcases List.mem_append.1 (hpb.mem_iff.1 hb) with h | h
    · obtain ⟨u, hu, hbu⟩ := mem_blocks.1 h
      exact hvn u hu a hbu hva
    · rcases hv a hva with h1 | h1
      · exact hvX a h1 h
      · have := hXlt a h; omega
  · rcases List.mem_append.1 hk with h | h
    · rcases hv k ((hv1 k).1 h) with h1 | h1
      · exact Or.inl (List.mem_append.2 (Or.inl ((hv2 k).2 h1)))
      · exact Or.inr h1
    · rcases List.mem_append.1 (hpb.mem_iff.1 h) with h | h
      · exact Or.inr (hnlt k h)
      · exact Or.inl (List.mem_append.2 (Or.inr h))
theorem apart_types {w : World} {L a b c d n m : Nat} {u v : Value} {xs ys : List Value} (hu : w.ownsRow L a b u n xs) (hv : w.ownsRow L c d v m ys) (hne : a ≠ c) (j : Nat) (hj : u.ownBlock = some j) : v.ownBlock ≠ some j := fun e => by
  obtain ⟨c1, q1⟩ := ownsRow_type hu hj
  obtain ⟨c2, q2⟩ := ownsRow_type hv e
  rw [q2] at q1
  simp at q1
  exact hne q1.2.symm
theorem one_nodup (u : Value) : (blocks [u]).Nodup := by
  unfold blocks
  cases hq : u.ownBlock with
  | none => simp [hq]
  | some j => simp [hq]
section
variable {L pb hbn hbr room : Nat} {s : PS} {w w' : World}
theorem PInv.n1 (h : PInv L pb hbn hbr room s w) : (blocks s.part1).Nodup := by
  have hn := h.nodup
  unfold PS.foot PS.vals at hn
  rw [List.filterMap_append] at hn
  exact (List.nodup_append.1 hn).1
theorem PInv.lt1 (h : PInv L pb hbn hbr room s w) : ∀ u ∈ s.part1, ∀ k, u.ownBlock = some k → k < w.heap.size := fun u hu => h.blt u (List.mem_append.2 (Or.inl hu))
theorem PInv.floatS (h : PInv L pb hbn hbr room s w) {v' : Value} (hst : Stp hbn s.v v' w w') : ∀ x ∈ s.fl, w'.ownsRow L 5 1 x.d x.bs.length (x.bs.map B) := fun x hx => hst.dat h.bag (h.float x hx)
/-- Send: a letter more. -/
theorem PInv.send {v' : Value} {x : LetV} (h : PInv L pb hbn hbr room s w) (hB : Bag L hbn room v' (s.lv ++ [x]) w') (hst : Stp hbn s.v v' w w') (hx : ∀ j, x.d.ownBlock = some j → w.heap.size ≤ j) :
    PInv L pb hbn hbr room { s with v := v', lv := s.lv ++ [x] } w' := by
  have hd := hB.dat x (by simp)
  obtain ⟨a, b⟩ := nodup_part (v' := v') (X' := (s.lv ++ [x]).map LetV.d ++ s.fl.map Dat.d) (news := [x.d]) h.n1 h.lt1 hst.at' (fun u hu => by simp at hu; subst hu; exact hx) (one_nodup _)
    (fun u hu j hj => by simp at hu; subst hu; exact apart_types hd hB.own (by decide) j hj) (by
      rw [List.map_append, List.map_cons, List.map_nil, List.append_assoc]
      exact List.perm_middle)
  exact h.bagStep hB hst (h.floatS hst) a b
/-- Deliver: a letter is handed out. -/
theorem PInv.take {v' : Value} {i : Nat} {l : LetV} (h : PInv L pb hbn hbr room s w) (hi : s.lv[i]? = some l) (hB : Bag L hbn room v' (s.lv.eraseIdx i) w') (hst : Stp hbn s.v v' w w') :
    PInv L pb hbn hbr room { s with v := v', lv := s.lv.eraseIdx i, fl := ⟨l.d, l.bs⟩ :: s.fl } w' := by
  have hp : ((s.lv.eraseIdx i).map LetV.d ++ ((⟨l.d, l.bs⟩ : Dat) :: s.fl).map Dat.d).Perm ([] ++ (s.lv.map LetV.d ++ s.fl.map Dat.d)) := by
    have p1 : (s.lv.map LetV.d).Perm (l.d :: (s.lv.eraseIdx i).map LetV.d) := by
      have e : s.lv.Perm (l :: s.lv.eraseIdx i) := by
        have hl := (List.getElem?_eq_some_iff.1 hi).1
        have e : s.lv = s.lv.take i ++ l :: s.lv.drop (i + 1) := by
          conv => lhs; rw [← List.take_append_drop i s.lv]
          rw [List.drop_eq_getElem_cons hl]
          congr 2
          exact (List.getElem?_eq_some_iff.1 hi).2
        rw [erase_split]
        conv => lhs; rw [e]
        exact List.perm_middle
      exact e.map LetV.d
    rw [List.nil_append, List.map_cons]
    exact List.perm_middle.trans (p1.symm.append_right _)
  obtain ⟨a, b⟩ := nodup_part (v' := v') (news := []) h.n1 h.lt1 hst.at' (fun u hu => by cases hu) (by simp [blocks]) (fun u hu => by cases hu) hp
  refine h.bagStep hB hst (fun x hx => ?_) a b
  rcases List.mem_cons.1 hx with rfl | hx
  · exact hst.dat h.bag (h.bag.dat l (List.mem_of_getElem? hi))
  · exact h.floatS hst x hx
/-- The letters in another order, or fewer. -/
theorem PInv.turn {v' : Value} {lv' : List LetV} (h : PInv L pb hbn hbr room s w) (hp : lv'.Perm s.lv) (hB : Bag L hbn room v' lv' w') (hst : Stp hbn s.v v' w w') : PInv L pb hbn hbr room { s with v := v', lv := lv' } w' := by
  obtain ⟨a, b⟩ := nodup_part (v' := v') (X' := lv'.map LetV.d ++ s.fl.map Dat.d) (news := []) h.n1 h.lt1 hst.at' (fun u hu => by cases hu) (by simp [blocks]) (fun u hu => by cases hu) ((hp.map LetV.d).append_right _)
  exact h.bagStep hB hst (h.floatS hst) a b
/-- An answer in new memory. -/
theorem PInv.told (h : PInv L pb hbn hbr room s w) (hb : Below w.heap.size w w') {d : Value} {bs : List UInt8} (hd : w'.ownsRow w.heap.size 5 1 d bs.length (bs.map B)) (hL : L ≤ w.heap.size) : PInv L pb hbn hbr room { s with fl := ⟨d, bs⟩ :: s.fl } w' := by
  have h' := h.below hb
  obtain ⟨a, b⟩ := nodup_part (v' := s.v) (X' := s.lv.map LetV.d ++ ((⟨d, bs⟩ : Dat) :: s.fl).map Dat.d) (news := [d]) h.n1 h.lt1 (fun j hj => Or.inl hj) (fun u hu j hj => by simp at hu; subst hu; exact (hd.lt j hj).1) (one_nodup _)
    (fun u hu j hj e => by simp at hu; subst hu; have := (hd.lt j hj).1; have := (h.bag.own.lt j e).2; omega) (by
      rw [List.map_cons]
      exact List.perm_middle)
  refine h.bagStep h'.bag (Stp.ofBelow _ hb) (fun x hx => ?_) a b
  rcases List.mem_cons.1 hx with rfl | hx
  · exact ownsRow_mono hd hL
  · exact h'.float x hx
/-- An answer is forgotten. -/
theorem PInv.lose (h : PInv L pb hbn hbr room s w) {x : Dat} {fl : List Dat} (hf : s.fl = x :: fl) : PInv L pb hbn hbr room { s with fl := fl } w := by
  have hsl : (blocks (s.v :: (s.lv.map LetV.d ++ fl.map Dat.d))).Sublist (blocks s.part1) := by
    unfold PS.part1 blocks
    rw [hf, List.map_cons]
    exact List.Sublist.filterMap _ ((List.Sublist.append_left (List.sublist_cons_self _ _) _).cons_cons _)
  exact h.bagStep h.bag (Stp.refl _ _ _) (fun y hy => h.float y (by rw [hf]; simp [hy])) (h.n1.sublist hsl) (fun k hk => Or.inl (hsl.subset hk))
end
end Go.Proofs.Ytehjdkdoalmaeaa
namespace Go.Proofs.Ytehjdkdoalmaeaa
open Go.RowKit Go.PlainAid
set_option linter.unusedVariables false
set_option linter.unusedSimpArgs false
section
variable {L pb hbn hbr room : Nat} {s : PS} {w w' : World}
theorem vals_perm2 (s : PS) : s.vals.Perm (s.part2 ++ (s.part1 ++ s.part3)) := by
  unfold PS.vals
  rw [← List.append_assoc, ← List.append_assoc]
  exact List.perm_append_comm.append_right _
theorem vals_perm3 (s : PS) : s.vals.Perm (s.part3 ++ (s.part1 ++ s.part2)) := by
  unfold PS.vals
  rw [← List.append_assoc]
  exact List.perm_append_comm
theorem PInv.nd2 (h : PInv L pb hbn hbr room s w) : (blocks (s.part2 ++ (s.part1 ++ s.part3))).Nodup := ((blocks_perm (vals_perm2 s)).nodup_iff).1 h.nodup
theorem PInv.nd3 (h : PInv L pb hbn hbr room s w) : (blocks (s.part3 ++ (s.part1 ++ s.part2))).Nodup := ((blocks_perm (vals_perm3 s)).nodup_iff).1 h.nodup
theorem PInv.n2 (h : PInv L pb hbn hbr room s w) : (blocks s.part2).Nodup := by
  have hn := h.nd2
  rw [blocks_append] at hn
  exact (List.nodup_append.1 hn).1
theorem PInv.lt2 (h : PInv L pb hbn hbr room s w) : ∀ u ∈ s.part2, ∀ k, u.ownBlock = some k → k < w.heap.size := fun u hu => h.blt u ((vals_perm2 s).mem_iff.2 (List.mem_append.2 (Or.inl hu)))
theorem PInv.apart2 (h : PInv L pb hbn hbr room s w) (u : Value) (hu : u ∈ s.part1 ++ s.part3) (k : Nat) (hk : u.ownBlock = some k) : k ≠ hbr ∧ s.vr.ownBlock ≠ some k := by
  refine ⟨fun e => ?_, fun e => ?_⟩
  · obtain ⟨⟨cur, T, hc, _, _, h1⟩, _⟩ := h.row u ((vals_perm2 s).mem_iff.2 (List.mem_append.2 (Or.inr hu))) k hk
    rw [e, h.ref.blk] at hc
    cases hc
    exact h1 rfl
  · have hn := h.nd2
    rw [blocks_append] at hn
    exact (List.nodup_append.1 hn).2.2 k (mem_blocks.2 ⟨s.vr, by simp [PS.part2], e⟩) k (mem_blocks.2 ⟨u, hu, hk⟩) rfl
/-- A call of the reference's bag. -/
theorem PInv.refStep {vr' : Value} {lr' : List LetV} (h : PInv L pb hbn hbr room s w) (hB : RBag L hbr room vr' lr' w') (hst : Stp hbr s.vr vr' w w')
    (hA : (blocks (vr' :: lr'.map LetV.d)).Nodup) (hsub : ∀ k ∈ blocks (vr' :: lr'.map LetV.d), k ∈ blocks s.part2 ∨ w.heap.size ≤ k) :
    PInv L pb hbn hbr room { s with vr := vr', lr := lr' } w' := by
  obtain ⟨n1, n2, n3⟩ := h.pbne
  have hbox : ∀ k, k < w.heap.size → k ≠ hbr → (∃ cur T, w.heap[k]? = some (.cells cur T (0, 0)) ∧ T ≠ 31) → w'.heap[k]? = w.heap[k]? := fun k hk h1 ⟨cur, T, hc, h2⟩ => hst.block k hk h1 fun e => by
    obtain ⟨c2, q2⟩ := ownsRow_type h.ref.own e
    rw [q2] at hc
    cases hc
    exact h2 rfl
  have hv : ∀ u ∈ s.part1 ++ s.part3, ∀ g, u.ownBlock = some g → w'.heap[g]? = w.heap[g]? := fun u hu g hg => hst.block g (h.blt u ((vals_perm2 s).mem_iff.2 (List.mem_append.2 (Or.inr hu))) g hg) (h.apart2 u hu g hg).1 (h.apart2 u hu g hg).2
  have m1 : ∀ x ∈ s.lv, x.d ∈ s.part1 ++ s.part3 := fun x hx => by simp only [PS.part1, List.mem_append, List.mem_cons, List.mem_map]; exact Or.inl (Or.inr (Or.inl ⟨x, hx, rfl⟩))
  have m5 : ∀ x ∈ s.fl, x.d ∈ s.part1 ++ s.part3 := fun x hx => by simp only [PS.part1, List.mem_append, List.mem_cons, List.mem_map]; exact Or.inl (Or.inr (Or.inr ⟨x, hx, rfl⟩))
  have m3 : ∀ x ∈ s.ks, x.d ∈ s.part1 ++ s.part3 := fun x hx => by simp only [PS.part3, List.mem_append, List.mem_cons, List.mem_map]; exact Or.inr (Or.inr (Or.inr (Or.inr (Or.inr (Or.inr (Or.inl ⟨x, hx, rfl⟩))))))
  have m4 : ∀ x ∈ s.ls, x.d ∈ s.part1 ++ s.part3 := fun x hx => by simp only [PS.part3, List.mem_append, List.mem_cons, List.mem_map]; exact Or.inr (Or.inr (Or.inr (Or.inr (Or.inr (Or.inr (Or.inr ⟨x, hx, rfl⟩))))))
  refine ⟨(hbox pb h.pblt n2 ⟨_, _, h.box, by decide⟩).trans h.box,
    ⟨(hbox hbn h.bag.lt n3 ⟨_, _, h.bag.blk, by decide⟩).trans h.bag.blk, ownsRow_same h.bag.own (hv _ (by simp [PS.part1, PS.part3])), fun x hx => ownsRow_same (h.bag.dat x hx) (hv _ (m1 x hx))⟩, hB,
    tail_same h.bytes (hv _ (by simp [PS.part1, PS.part3])), tail_same h.marks (hv _ (by simp [PS.part1, PS.part3])), fun x hx => ownsRow_same (h.kept x hx) (hv _ (m3 x hx)),
    ownsRow_same h.lentO (hv _ (by simp [PS.part1, PS.part3])), tail_same h.left (hv _ (by simp [PS.part1, PS.part3])), tail_same h.were (hv _ (by simp [PS.part1, PS.part3])), fun x hx => ownsRow_same (h.lefts x hx) (hv _ (m4 x hx)), fun x hx => ownsRow_same (h.float x hx) (hv _ (m5 x hx)), ?_⟩
  have := nodup_step (A := s.part2) (A' := vr' :: lr'.map LetV.d) (C := s.part1 ++ s.part3) h.nd2 (fun u hu => h.blt u ((vals_perm2 s).mem_iff.2 hu)) hA hsub
  exact ((blocks_perm (vals_perm2 { s with vr := vr', lr := lr' })).nodup_iff).2 this
/-- The reference's Send. -/
theorem PInv.rsend {vr' : Value} {x : LetV} (h : PInv L pb hbn hbr room s w) (hB : RBag L hbr room vr' (s.lr ++ [x]) w') (hst : Stp hbr s.vr vr' w w') (hx : ∀ j, x.d.ownBlock = some j → w.heap.size ≤ j) :
    PInv L pb hbn hbr room { s with vr := vr', lr := s.lr ++ [x] } w' := by
  have hd := hB.dat x (by simp)
  obtain ⟨a, b⟩ := nodup_part (v' := vr') (X' := (s.lr ++ [x]).map LetV.d) (news := [x.d]) h.n2 h.lt2 hst.at' (fun u hu => by simp at hu; subst hu; exact hx) (one_nodup _)
    (fun u hu j hj => by simp at hu; subst hu; exact apart_types hd hB.own (by decide) j hj) (by
      rw [List.map_append, List.map_cons, List.map_nil]
      exact List.perm_append_comm)
  exact h.refStep hB hst a b
/-- The reference's letters in another order, or fewer. -/
theorem PInv.rturn {vr' : Value} {lr' : List LetV} (h : PInv L pb hbn hbr room s w) {lq : List LetV} (hq : lr'.Perm lq) (hsl : lq.Sublist s.lr) (hB : RBag L hbr room vr' lr' w') (hst : Stp hbr s.vr vr' w w') : PInv L pb hbn hbr room { s with vr := vr', lr := lr' } w' := by
  have hsl' : (blocks (s.vr :: lq.map LetV.d)).Sublist (blocks s.part2) := by
    unfold PS.part2 blocks
    exact List.Sublist.filterMap _ ((hsl.map _).cons_cons _)
  obtain ⟨a, b⟩ := nodup_part (v' := vr') (X' := lr'.map LetV.d) (X := lq.map LetV.d) (v := s.vr) (news := []) (H := w.heap.size) (h.n2.sublist hsl') (fun u hu => h.lt2 u (by
      rcases List.mem_cons.1 hu with rfl | hu
      · simp [PS.part2]
      · obtain ⟨x, hx, rfl⟩ := List.mem_map.1 hu
        simp only [PS.part2, List.mem_cons, List.mem_map]
        exact Or.inr ⟨x, hsl.subset hx, rfl⟩)) hst.at' (fun u hu => by cases hu) (by simp [blocks]) (fun u hu => by cases hu) (by rw [List.nil_append]; exact hq.map _)
  exact h.refStep hB hst a (fun k hk => (b k hk).imp (fun q => hsl'.subset q) id)
end
end Go.Proofs.Ytehjdkdoalmaeaa
namespace Go.Proofs.Ytehjdkdoalmaeaa
open Go.RowKit Go.PlainAid
set_option linter.unusedVariables false
set_option linter.unusedSimpArgs false
section
variable {L pb hbn hbr room : Nat} {s : PS} {w w' : World}
/-- The values beside both bags: the lists, and the answers under way. -/
def PS.side (s : PS) : List Value := s.part3 ++ s.fl.map Dat.d
def PS.bags (s : PS) : List Value := s.v :: s.lv.map LetV.d ++ s.part2
theorem perm_four {α : Type} (A F P Q : List α) : ((A ++ F) ++ (P ++ Q)).Perm ((Q ++ F) ++ (A ++ P)) := by
  have h1 : ((A ++ F) ++ (P ++ Q)).Perm (A ++ ((P ++ Q) ++ F)) := by
    rw [List.append_assoc]
    exact List.perm_append_comm.append_left _
  refine h1.trans ?_
  rw [show A ++ ((P ++ Q) ++ F) = (A ++ P) ++ (Q ++ F) from by simp]
  exact List.perm_append_comm
theorem vals_permS (s : PS) : s.vals.Perm (s.side ++ s.bags) := perm_four (s.v :: s.lv.map LetV.d) (s.fl.map Dat.d) s.part2 s.part3
theorem PInv.ndS (h : PInv L pb hbn hbr room s w) : (blocks (s.side ++ s.bags)).Nodup := ((blocks_perm (vals_permS s)).nodup_iff).1 h.nodup
theorem PInv.apartS (h : PInv L pb hbn hbr room s w) (u : Value) (hu : u ∈ s.bags) (k : Nat) (hk : u.ownBlock = some k) : k ∉ blocks s.side := fun hs => by
  have hn := h.ndS
  rw [blocks_append] at hn
  exact (List.nodup_append.1 hn).2.2 k hs k (mem_blocks.2 ⟨u, hu, hk⟩) rfl
theorem PInv.notBox (h : PInv L pb hbn hbr room s w) (u : Value) (hu : u ∈ s.vals) (k : Nat) (hk : u.ownBlock = some k) : k ≠ pb ∧ k ≠ hbn ∧ k ≠ hbr := by
  obtain ⟨⟨cur, T, hc, h1, h2, h3⟩, _⟩ := h.row u hu k hk
  refine ⟨fun e => ?_, fun e => ?_, fun e => ?_⟩
  · rw [e, h.box] at hc; cases hc; exact h2 rfl
  · rw [e, h.bag.blk] at hc; cases hc; exact h1 rfl
  · rw [e, h.ref.blk] at hc; cases hc; exact h3 rfl
/-- What changes but the box and the side leaves the bags. -/
theorem PInv.bagsKept (h : PInv L pb hbn hbr room s w) (hk : ∀ k, k < w.heap.size → k ≠ pb → k ∉ blocks s.side → w'.heap[k]? = w.heap[k]?) : Bag L hbn room s.v s.lv w' ∧ RBag L hbr room s.vr s.lr w' := by
  obtain ⟨n1, n2, n3⟩ := h.pbne
  have mem : ∀ u ∈ s.bags, u ∈ s.vals := fun u hu => (vals_permS s).mem_iff.2 (List.mem_append.2 (Or.inr hu))
  have hv : ∀ u ∈ s.bags, ∀ g, u.ownBlock = some g → w'.heap[g]? = w.heap[g]? := fun u hu g hg => hk g (h.blt u (mem u hu) g hg) (h.notBox u (mem u hu) g hg).1 (h.apartS u hu g hg)
  have hbx : ∀ k T cur, w.heap[k]? = some (.cells cur T (0, 0)) → (T = 54 ∨ T = 73) → k ∉ blocks s.side := fun k T cur hc hT hs => by
    obtain ⟨u, hu, hb⟩ := mem_blocks.1 hs
    obtain ⟨⟨cur2, T2, hc2, h1, _, h3⟩, _⟩ := h.row u ((vals_permS s).mem_iff.2 (List.mem_append.2 (Or.inl hu))) k hb
    rw [hc] at hc2
    cases hc2
    rcases hT with hT | hT
    · exact h1 hT
    · exact h3 hT
  have m1 : ∀ x ∈ s.lv, x.d ∈ s.bags := fun x hx => by simp only [PS.bags, List.mem_append, List.mem_cons, List.mem_map]; exact Or.inl (Or.inr ⟨x, hx, rfl⟩)
  have m2 : ∀ x ∈ s.lr, x.d ∈ s.bags := fun x hx => by simp only [PS.bags, PS.part2, List.mem_append, List.mem_cons, List.mem_map]; exact Or.inr (Or.inr ⟨x, hx, rfl⟩)
  exact ⟨⟨(hk hbn h.bag.lt (Ne.symm n1) (hbx hbn 54 _ h.bag.blk (Or.inl rfl))).trans h.bag.blk, ownsRow_same h.bag.own (hv _ (by simp [PS.bags])), fun x hx => ownsRow_same (h.bag.dat x hx) (hv _ (m1 x hx))⟩,
    ⟨(hk hbr h.ref.lt (Ne.symm n2) (hbx hbr 73 _ h.ref.blk (Or.inr rfl))).trans h.ref.blk, ownsRow_same h.ref.own (hv _ (by simp [PS.bags, PS.part2])), fun x hx => ownsRow_same (h.ref.dat x hx) (hv _ (m2 x hx))⟩⟩
/-- A new side: what stood in it, or new rows. -/
theorem PInv.ndNew (h : PInv L pb hbn hbr room s w) {s' : PS} (hb : s'.bags = s.bags) (hA : (blocks s'.side).Nodup) (hsub : ∀ k ∈ blocks s'.side, k ∈ blocks s.side ∨ w.heap.size ≤ k) : s'.foot.Nodup := by
  have := nodup_step (A := s.side) (A' := s'.side) (C := s.bags) h.ndS (fun u hu => h.blt u ((vals_permS s).mem_iff.2 hu)) hA hsub
  rw [← hb] at this
  exact ((blocks_perm (vals_permS s')).nodup_iff).2 this
/-- One list of the side is exchanged: apart from the rest of the side. -/
theorem PInv.sideOne (h : PInv L pb hbn hbr room s w) {u : Value} {R : List Value} (hp : s.side.Perm (u :: R)) (k : Nat) (hk : u.ownBlock = some k) (x : Value) (hx : x ∈ R) : x.ownBlock ≠ some k := fun e => by
  have hn := h.ndS
  rw [blocks_append] at hn
  have h1 := (List.nodup_append.1 hn).1
  have h2 := ((blocks_perm hp).nodup_iff).1 h1
  have e1 : blocks (u :: R) = blocks [u] ++ blocks R := blocks_append [u] R
  rw [e1] at h2
  exact (List.nodup_append.1 h2).2.2 k (mem_blocks.2 ⟨u, by simp, hk⟩) k (mem_blocks.2 ⟨x, hx, e⟩) rfl
theorem PInv.ndOne (h : PInv L pb hbn hbr room s w) {s' : PS} {u u' : Value} {R : List Value} (hp : s.side.Perm (u :: R)) (hp' : s'.side.Perm (u' :: R)) (hb : s'.bags = s.bags) (hu : ∀ j, u'.ownBlock = some j → u.ownBlock = some j ∨ w.heap.size ≤ j) : s'.foot.Nodup := by
  have hn := h.ndS
  rw [blocks_append] at hn
  have h1 := ((blocks_perm hp).nodup_iff).1 (List.nodup_append.1 hn).1
  obtain ⟨a, b⟩ := nodup_part (v := u) (v' := u') (X := R) (X' := R) (news := []) (H := w.heap.size) h1 (fun y hy => h.blt y ((vals_permS s).mem_iff.2 (List.mem_append.2 (Or.inl (hp.mem_iff.2 hy))))) hu (fun y hy => by cases hy) (by simp [blocks]) (fun y hy => by cases hy) (List.Perm.refl _)
  exact h.ndNew hb (((blocks_perm hp').nodup_iff).2 a) (fun k hk => (b k ((blocks_perm hp').mem_iff.1 hk)).imp (fun q => (blocks_perm hp).mem_iff.2 q) id)
end
end Go.Proofs.Ytehjdkdoalmaeaa
