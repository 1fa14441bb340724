import Derived.Test.YtehjdkdoalmaeaaPlays6
import Derived.Laws.Closers25b
namespace Go.Proofs.Ytehjdkdoalmaeaa
open Go.RowKit Go.PlainAid
set_option linter.unusedVariables false
set_option linter.unusedSimpArgs false
/-- The law's marks. -/
def sgN (i j : Nat) : Nat := (7 * i + i / 256 + 3 * j) % 256
theorem sgN_lt (i j : Nat) : sgN i j < 256 := Nat.mod_lt _ (by decide)
def sg (i j : Nat) : UInt8 := UInt8.ofNat (sgN i j)
theorem sg_nat (i j : Nat) : (sg i j).toNat = sgN i j := UInt8.toNat_ofNat_of_lt' (sgN_lt i j)
def tlI (i j : Nat) : Int := bits BinOp.xor IntKind.u8 (sgN (i + 1) j : Nat) 85
theorem tlI_b (i j : Nat) : 0 ≤ tlI i j ∧ tlI i j ≤ 255 := ⟨bits_lo_u8 _ _ _, bits_hi_u8 _ _ _⟩
def tl (i j : Nat) : UInt8 := UInt8.ofNat (tlI i j).toNat
theorem tl_nat (i j : Nat) : ((tl i j).toNat : Int) = tlI i j := by
  have := tlI_b i j
  rw [tl, UInt8.toNat_ofNat_of_lt' (by show (tlI i j).toNat < 256; omega)]
  omega
set_option maxHeartbeats 800000 in
theorem sign_any (i j : Nat) (hi : i ≤ 10000) (hj : j ≤ 100000000) (w : World) : Calls Try.prog 39 #[.int .i64 (i : Nat), .int .i64 (j : Nat)] w fun r w' => r = .returned (.int .u8 ((sgN i j : Nat) : Int)) ∧ w' = w := by
  go_enter Try.func39, Try.ntmps39
  go_wp2
  go_ret
  refine ⟨?_, rfl⟩
  congr 1
def sgl (m n : Nat) : List UInt8 := (List.range n).map (sg m)
theorem sgl_len (m n : Nat) : (sgl m n).length = n := by simp [sgl]
theorem sgl_get (m n j : Nat) (h : j < n) : (sgl m n)[j]? = some (sg m j) := by simp [sgl, h]
def tls (m n : Nat) : List UInt8 := (List.range n).map (tl m)
theorem tls_len (m n : Nat) : (tls m n).length = n := by simp [tls]
theorem tls_succ (m n : Nat) : tls m (n + 1) = tls m n ++ [tl m n] := by simp [tls, List.range_succ]
theorem tls_get (m n j : Nat) (h : j < n) : (tls m n)[j]? = some (tl m j) := by simp [tls, h]
/-- The answers left alone: their list, their rows. -/
structure ASt (L pb : Nat) (vf : Value) (ds : List Value) (bf : Nat → List UInt8) (W : World) : Prop where
  box : ∃ C : Array Value, W.heap[pb]? = some (.cells C 65 (0, 0)) ∧ C[6]? = some vf
  left : Tail W L 29 vf ds.length ds
  rows : ∀ (m : Nat) (d : Value), ds[m]? = some d → W.ownsRow L 5 1 d (bf m).length ((bf m).map B)
  nd : ∀ (m m' : Nat) (d d' : Value) (g : Nat), ds[m]? = some d → ds[m']? = some d' → d.ownBlock = some g → d'.ownBlock = some g → m = m'
/-- What else is as it was. -/
structure Frm (ds : List Value) (w W : World) : Prop where
  os : W.os = w.os
  tape : W.tape = w.tape
  output : W.output = w.output
  size : w.heap.size ≤ W.heap.size
  block : ∀ k, k < w.heap.size → (∀ d ∈ ds, d.ownBlock ≠ some k) → W.heap[k]? = w.heap[k]?
theorem Frm.refl (ds : List Value) (w : World) : Frm ds w w := ⟨rfl, rfl, rfl, Nat.le_refl _, fun _ _ _ => rfl⟩
theorem Frm.trans {ds : List Value} {a b c : World} (h : Frm ds a b) (k : Frm ds b c) : Frm ds a c := ⟨k.os.trans h.os, k.tape.trans h.tape, k.output.trans h.output, Nat.le_trans h.size k.size, fun j hj hn => (k.block j (Nat.lt_of_lt_of_le hj h.size) hn).trans (h.block j hj hn)⟩
theorem nodup_idx : ∀ (l : List Value), (blocks l).Nodup → ∀ (m m' : Nat) (u u' : Value) (g : Nat), l[m]? = some u → l[m']? = some u' → u.ownBlock = some g → u'.ownBlock = some g → m = m'
  | [], _, m, m', u, u', g, h1, _, _, _ => by simp at h1
  | x :: l, hn, m, m', u, u', g, h1, h2, h3, h4 => by
    have e : blocks (x :: l) = blocks [x] ++ blocks l := blocks_append [x] l
    rw [e] at hn
    obtain ⟨_, hl, hx⟩ := List.nodup_append.1 hn
    have hxl : ∀ (u : Value) (k : Nat), l[k]? = some u → u.ownBlock = some g → x.ownBlock = some g → False := fun u k hk hu hxg =>
      hx g (mem_blocks.2 ⟨x, by simp, hxg⟩) g (mem_blocks.2 ⟨u, List.mem_of_getElem? hk, hu⟩) rfl
    cases m with
    | zero =>
      simp only [List.getElem?_cons_zero, Option.some.injEq] at h1
      subst h1
      cases m' with
      | zero => rfl
      | succ m' => exact (hxl u' m' (by simpa using h2) h4 h3).elim
    | succ m =>
      cases m' with
      | zero =>
        simp only [List.getElem?_cons_zero, Option.some.injEq] at h2
        subst h2
        exact (hxl u m (by simpa using h1) h3 h4).elim
      | succ m' =>
        have := nodup_idx l hl m m' u u' g (by simpa using h1) (by simpa using h2) h3 h4
        omega
section
variable {L pb : Nat} {vf : Value} {ds : List Value} {bf bf' : Nat → List UInt8} {w W W2 : World}
theorem ASt.congr (h : ASt L pb vf ds bf W) (he : ∀ m, m < ds.length → bf m = bf' m) : ASt L pb vf ds bf' W := ⟨h.box, h.left, fun m d hd => by rw [← he m (List.getElem?_eq_some_iff.1 hd).1]; exact h.rows m d hd, h.nd⟩
theorem ASt.same (h : ASt L pb vf ds bf W) (hk : ∀ k, k < W.heap.size → W2.heap[k]? = W.heap[k]?) : ASt L pb vf ds bf W2 := by
  obtain ⟨C, hC, h6⟩ := h.box
  exact ⟨⟨C, (hk pb (Array.getElem?_eq_some_iff.1 hC).1).trans hC, h6⟩, tail_same h.left fun g hg => hk g (tail_lt h.left g hg).2, fun m d hd => ownsRow_same (h.rows m d hd) fun g hg => hk g ((h.rows m d hd).lt g hg).2, h.nd⟩
theorem ASt.drew (h : ASt L pb vf ds bf W) : ASt L pb vf ds bf ({ W with drawn := W.drawn + 1 } : World) := ⟨h.box, tail_same h.left fun _ _ => rfl, fun m d hd => ownsRow_same (h.rows m d hd) fun _ _ => rfl, h.nd⟩
theorem Frm.drew (h : Frm ds w W) : Frm ds w ({ W with drawn := W.drawn + 1 } : World) := ⟨h.os, h.tape, h.output, h.size, h.block⟩
theorem ASt.pbd (h : ASt L pb vf ds bf W) (d : Value) (hd : d ∈ ds) : d.ownBlock ≠ some pb := fun e => by
  obtain ⟨m, hm⟩ := List.getElem?_of_mem hd
  obtain ⟨cur, hc⟩ := ownsRow_type (h.rows m d hm) e
  obtain ⟨C, hC, _⟩ := h.box
  rw [hC] at hc
  cases hc
theorem ASt.vfd (h : ASt L pb vf ds bf W) (d : Value) (hd : d ∈ ds) (g : Nat) (hg : d.ownBlock = some g) : vf.ownBlock ≠ some g := by
  obtain ⟨m, hm⟩ := List.getElem?_of_mem hd
  obtain ⟨cur, hc⟩ := ownsRow_type (h.rows m d hm) hg
  exact tail_ne h.left hc (by decide)
/-- One of the rows is turned. -/
theorem ASt.turn (h : ASt L pb vf ds bf W) {k : Nat} {d : Value} (hd : ds[k]? = some d) (bs : List UInt8) (hT : W2.ownsRow L 5 1 d bs.length (bs.map B)) (hk : ∀ j, j < W.heap.size → d.ownBlock ≠ some j → W2.heap[j]? = W.heap[j]?) (he : ∀ m, bf' m = if m = k then bs else bf m) : ASt L pb vf ds bf' W2 := by
  obtain ⟨C, hC, h6⟩ := h.box
  have hmem := List.mem_of_getElem? hd
  refine ⟨⟨C, (hk pb (Array.getElem?_eq_some_iff.1 hC).1 (h.pbd d hmem)).trans hC, h6⟩, tail_same h.left fun g hg => hk g (tail_lt h.left g hg).2 (fun e => h.vfd d hmem g e hg), fun m d' hd' => ?_, h.nd⟩
  rw [he]
  by_cases e : m = k
  · rw [if_pos e]
    subst e
    rw [hd] at hd'
    cases hd'
    exact hT
  · rw [if_neg e]
    exact ownsRow_same (h.rows m d' hd') fun g hg => hk g ((h.rows m d' hd').lt g hg).2 (fun e2 => e (h.nd m k d' d g hd' hd hg e2))
theorem Frm.turn (h : Frm ds w W) {d : Value} (hd : d ∈ ds) (ho : W2.os = W.os ∧ W2.tape = W.tape ∧ W2.output = W.output ∧ W.heap.size ≤ W2.heap.size) (hk : ∀ j, j < W.heap.size → d.ownBlock ≠ some j → W2.heap[j]? = W.heap[j]?) : Frm ds w W2 :=
  ⟨ho.1.trans h.os, ho.2.1.trans h.tape, ho.2.2.1.trans h.output, Nat.le_trans h.size ho.2.2.2, fun j hj hn => (hk j (Nat.lt_of_lt_of_le hj h.size) (hn d hd)).trans (h.block j hj hn)⟩
end
theorem apart_start {L pb hbn hbr room : Nat} {s : PS} {w : World} (h : PInv L pb hbn hbr room s w) : ASt L pb s.vf (s.ls.map Dat.d) (fun m => ((s.ls[m]?).map Dat.bs).getD []) w := by
  refine ⟨⟨_, h.box, rfl⟩, by rw [List.length_map]; exact h.left, fun m d hd => ?_, fun m m' d d' g h1 h2 h3 h4 => nodup_idx _ ?_ m m' d d' g h1 h2 h3 h4⟩
  · rw [List.getElem?_map] at hd
    cases hq : s.ls[m]? with
    | none => rw [hq] at hd; cases hd
    | some x =>
      rw [hq] at hd
      cases hd
      exact h.lefts x (List.mem_of_getElem? hq)
  · have hn := h.ndS
    rw [blocks_append] at hn
    have h1 := (List.nodup_append.1 hn).1
    have e : s.side = ([s.vb, s.vm, s.vl, s.vf, s.vw] ++ s.ks.map Dat.d) ++ (s.ls.map Dat.d ++ s.fl.map Dat.d) := by simp [PS.side, PS.part3]
    rw [e, blocks_append, blocks_append] at h1
    have h2 := (List.nodup_append.1 h1).2.1
    rw [blocks_append] at h2
    exact (List.nodup_append.1 h2).1
/-- The bytes of the m-th row while the first k are written full. -/
def bfk (og : Nat → List UInt8) (k : Nat) (m : Nat) : List UInt8 := if m < k then sgl m (og m).length else og m
def bfj (og : Nat → List UInt8) (k j : Nat) (m : Nat) : List UInt8 := if m = k then (sgl k (og k).length).take j ++ (og k).drop j else bfk og k m
theorem bfk_zero (og : Nat → List UInt8) (m : Nat) : og m = bfk og 0 m := by simp [bfk]
theorem bfk_len (og : Nat → List UInt8) (k m : Nat) : (bfk og k m).length = (og m).length := by unfold bfk; split <;> simp [sgl_len]
theorem bfj_zero (og : Nat → List UInt8) (k m : Nat) : bfk og k m = bfj og k 0 m := by
  unfold bfj bfk
  split
  · rw [if_neg (by omega)]
  · by_cases e : m = k
    · subst e; simp
    · rw [if_neg e]
theorem bfj_end (og : Nat → List UInt8) (k j m : Nat) (hj : j = (og k).length) : bfj og k j m = bfk og (k + 1) m := by
  unfold bfj bfk
  by_cases e : m = k
  · subst e
    rw [if_pos rfl, if_pos (by omega), hj, List.drop_length, List.append_nil, List.take_of_length_le (by rw [sgl_len]; omega)]
  · rw [if_neg e]
    by_cases h : m < k
    · rw [if_pos h, if_pos (by omega)]
    · rw [if_neg h, if_neg (by omega)]
theorem bfj_self (og : Nat → List UInt8) (k j : Nat) : bfj og k j k = (sgl k (og k).length).take j ++ (og k).drop j := if_pos rfl
theorem bfj_len (og : Nat → List UInt8) (k j : Nat) (h : j ≤ (og k).length) : (bfj og k j k).length = (og k).length := by rw [bfj_self]; simp [sgl_len]; omega
theorem bfj_step (og : Nat → List UInt8) (k j m : Nat) (h : j < (og k).length) : bfj og k (j + 1) m = if m = k then (bfj og k j k).set j (sg k j) else bfj og k j m := by
  by_cases e : m = k
  · subst e
    rw [if_pos rfl, bfj_self, bfj_self]
    rw [List.set_append_right _ _ (by simp [sgl_len]; omega)]
    have e1 : ((sgl m (og m).length).take j).length = j := by simp [sgl_len]; omega
    rw [e1, Nat.sub_self, List.take_add_one, sgl_get _ _ _ h, List.drop_eq_getElem_cons h, List.set_cons_zero]
    simp
  · rw [if_neg e]
    unfold bfj
    rw [if_neg e, if_neg e]
end Go.Proofs.Ytehjdkdoalmaeaa
