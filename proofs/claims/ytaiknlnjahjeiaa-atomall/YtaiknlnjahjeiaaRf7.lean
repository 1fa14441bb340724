import Derived.Test.YtaiknlnjahjeiaaR5b
import Derived.Test.YtaiknlnjahjeiaaJoinD
import Derived.Test.YtaiknlnjahjeiaaR5c
import Derived.Test.YtaiknlnjahjeiaaR5d
import Derived.Test.YtaiknlnjahjeiaaR6a
import Derived.Test.YtaiknlnjahjeiaaR6b
import Derived.Test.YtaiknlnjahjeiaaR6c
import Derived.Test.YtaiknlnjahjeiaaRr
import Derived.Test.YtaiknlnjahjeiaaJoinC
import Derived.Deep.Cut
namespace Go.Proofs.Ytaiknlnjahjeiaa
open Go.RowKit Go.PlainAid Go.MapKept
set_option linter.unusedVariables false
set_option linter.unusedSimpArgs false
theorem zero94 (w : World) : (zeroValue 94).run Try.prog w = .ok (.agg #[.string ⟨#[]⟩, .int .i64 0, .int .i64 0, .slice none 0 0, .slice none 0 0]) w := by kernel_rfl
theorem storeC {W : World} {bx : Nat} {d0 d1 d2 d3 d4 : Value} (h : Blk W bx #[d0, d1, d2, d3, d4] 94) {s : ByteArray} {a b : Int} {ho uo : Option Addr} {hn hc un uc : Nat} {ev : Operand → Value} {o : Oper} {x y : Operand} (ho' : o.op = .store 94 x y) (hx : ev x = .pointer (some ⟨bx, 0, none⟩)) (hy : ev y = .agg #[.string s, .int .i64 a, .int .i64 b, .slice ho hn hc, .slice uo un uc]) : (execOp ev o).run Try.prog W = .ok .skip (((((W.setCell ⟨bx, 0, none⟩ (.string s)).setCell ⟨bx, 1, none⟩ (.int .i64 a)).setCell ⟨bx, 2, none⟩ (.int .i64 b)).setCell ⟨bx, 3, none⟩ (.slice ho hn hc)).setCell ⟨bx, 4, none⟩ (.slice uo un uc)) := by
  have f0 : World.frozen? W ⟨bx, 0, none⟩ = false := h.frozen 0
  have e0 : World.cell? W ⟨bx, 0, none⟩ = some d0 := h.cell 0
  have f1 : World.frozen? W ⟨bx, 1, none⟩ = false := h.frozen 1
  have e1 : World.cell? W ⟨bx, 1, none⟩ = some d1 := h.cell 1
  have f2 : World.frozen? W ⟨bx, 2, none⟩ = false := h.frozen 2
  have e2 : World.cell? W ⟨bx, 2, none⟩ = some d2 := h.cell 2
  have f3 : World.frozen? W ⟨bx, 3, none⟩ = false := h.frozen 3
  have e3 : World.cell? W ⟨bx, 3, none⟩ = some d3 := h.cell 3
  have f4 : World.frozen? W ⟨bx, 4, none⟩ = false := h.frozen 4
  have e4 : World.cell? W ⟨bx, 4, none⟩ = some d4 := h.cell 4
  simp only [execOp, ho', hx, hy]
  simp [go_sem, f0, e0, f1, e1, f2, e2, f3, e3, f4, e4]
theorem RC.Rd.box94 {B bx : Nat} {c : RC} {w w' : World} {C : Array Value} (h : c.Rd B w) (hB : Blk w bx C 94) (hc : Chg (fun k => k = bx) w w') : c.Rd B w' := by
  refine ⟨ownsRow_same h.h (fun g hg => hc.block g (ownsRow_lt h.h hg).2 (fun e => ?_)), ownsRow_same h.u (fun g hg => hc.block g (ownsRow_lt h.u hg).2 (fun e => ?_))⟩
  · obtain ⟨cu, hcu⟩ := ownsRow_type h.h hg
    exact Blk.ne_t (show Blk w g cu 125 from hcu) hB (by decide) e
  · obtain ⟨cu, hcu⟩ := ownsRow_type h.u hg
    exact Blk.ne_t (show Blk w g cu 3 from hcu) hB (by decide) e
theorem own_cell {w : World} {base e s n g cap k : Nat} {v : Value} {xs : List Value} (h : w.ownsRow base e s (.slice (some ⟨g, 0, none⟩) n cap) n xs) (hk : k < n * s) : (w.setCell ⟨g, k, none⟩ v).ownsRow base e s (.slice (some ⟨g, 0, none⟩) n cap) n (xs.set k v) ∧ w.frozen? ⟨g, k, none⟩ = false ∧ ∃ u, w.cell? ⟨g, k, none⟩ = some u := by
  rcases h.2 with ⟨h1, _⟩ | ⟨g2, c, cur, h1, h2, h3, h4, h5, h6, h7⟩
  · cases h1
  · cases h1
    have hB : Blk w g cur e := h3
    refine ⟨⟨by simpa using h.1, Or.inr ⟨g, cap, cur.setIfInBounds k v, rfl, h2, hB.set k v, h4, h5, by simpa using h6, ?_⟩⟩, hB.frozen k, ?_⟩
    · rw [Array.toList_setIfInBounds, List.take_set, h7]
    · rw [hB.cell k]
      have hl : xs.length = n * s := h.1
      have : k < cur.size := by
        have h8 := congrArg List.length h7
        rw [List.length_take, hl] at h8
        simp at h8
        omega
      exact ⟨_, Array.getElem?_eq_getElem this⟩
theorem flatR_set : ∀ (M : List RC) (i : Nat) (c' : RC), i < M.length → flatR (M.set i c') = (((((flatR M).set (i * 5) (.string ⟨c'.nm.toArray⟩)).set (i * 5 + 1) (.int .i64 c'.cap)).set (i * 5 + 2) (.int .i64 c'.val)).set (i * 5 + 3) c'.hv).set (i * 5 + 4) c'.uv
  | [], i, c', h => by simp at h
  | x :: t, 0, c', h => by simp [flatR, RC.row]
  | x :: t, i + 1, c', h => by
    have ih := flatR_set t i c' (by simpa using h)
    have e : ∀ (l : List Value) (j : Nat) (v : Value), (x.row ++ l).set ((i + 1) * 5 + j) v = x.row ++ l.set (i * 5 + j) v := fun l j v => by
      rw [List.set_append_right _ _ (by show 5 ≤ _; omega)]
      congr 2
      show (i + 1) * 5 + j - 5 = _
      omega
    have e0 : ∀ (l : List Value) (v : Value), (x.row ++ l).set ((i + 1) * 5) v = x.row ++ l.set (i * 5) v := fun l v => e l 0 v
    show x.row ++ flatR (t.set i c') = _
    rw [ih]
    show _ = (((((x.row ++ flatR t).set ((i + 1) * 5) _).set ((i + 1) * 5 + 1) _).set ((i + 1) * 5 + 2) _).set ((i + 1) * 5 + 3) _).set ((i + 1) * 5 + 4) _
    rw [e0, e, e, e, e]
/-- What an op comes to at a counter of the document. -/
def rcO (k A B q : Int) (c : RC) : RO :=
  if k = 2 then rincO A c else if k = 3 then rdecO A c else if k = 4 then rholdO A q c else if k = 5 ∨ k = 6 ∨ k = 12 then rendO k A c else if k = 8 then rtakeO A B c else if k = 9 then rresetO A c else if k = 10 then rrecapO A c else rreadO c
theorem rdone_any {B0 K : Nat} {c : RC} (k A B q : Int) (n : List UInt8) (w : World) (h : c.Rd B0 w) (hok : c.Ok K) (hK : K ≤ 90000) (hB0 : B0 ≤ w.heap.size) (ho : opB k A B = true) (hk1 : k ≠ 1) :
    Calls Try.prog 60 #[.agg c.cs, .agg #[.int .i64 k, .string ⟨n.toArray⟩, .int .i64 A, .int .i64 B], .int .i64 q] w (DnPost B0 w c (rcO k A B q c)) := by
  unfold rcO
  by_cases c2 : k = 2
  · subst c2
    simp [opB] at ho
    have b := amtB_yes ho.1
    exact rinc_any A B q n w h hok hK (by omega) (by omega)
  by_cases c3 : k = 3
  · subst c3
    simp [opB] at ho
    have b := amtB_yes ho.1
    rw [if_neg c2, if_pos rfl]
    exact rdec_any A B q n w h hok hK (by omega) (by omega)
  by_cases c4 : k = 4
  · subst c4
    simp [opB] at ho
    have b := amtB_yes ho.1
    rw [if_neg c2, if_neg c3, if_pos rfl]
    exact rhold_any A B q n w h hok hK (by omega) (by omega) hB0
  by_cases c5 : k = 5 ∨ k = 6 ∨ k = 12
  · rw [if_neg c2, if_neg c3, if_neg c4, if_pos c5]
    rcases c5 with rfl | rfl | rfl
    · exact rend_any5 A B q n w h hok hK hB0
    · exact rend_any6 A B q n w h hok hK hB0
    · exact rend_any12 A B q n w h hok hK hB0
  by_cases c8 : k = 8
  · subst c8
    simp [opB] at ho
    have b := amtB_yes ho.2
    rw [if_neg c2, if_neg c3, if_neg c4, if_neg c5, if_pos rfl]
    exact rtake_any A B q n w h hok hK (by omega) (by omega)
  by_cases c9 : k = 9
  · subst c9
    simp [opB] at ho
    have b := valB_yes ho.1
    rw [if_neg c2, if_neg c3, if_neg c4, if_neg c5, if_neg c8, if_pos rfl]
    exact rreset_any A B q n w h hok hK (by omega) (by omega)
  by_cases c10 : k = 10
  · subst c10
    rw [if_neg c2, if_neg c3, if_neg c4, if_neg c5, if_neg c8, if_neg c9, if_pos rfl]
    exact rrecap_any A B q n w h hok hK
  · have c7 : k = 7 := by
      unfold opB at ho
      rw [if_neg hk1, if_neg (by omega), if_neg c4, if_neg c5] at ho
      by_cases c7 : k = 7
      · exact c7
      · rw [if_neg c7, if_neg c8, if_neg c9] at ho
        cases ho
    subst c7
    rw [if_neg c2, if_neg c3, if_neg c4, if_neg c5, if_neg c8, if_neg c9, if_neg c10]
    exact rread_any A B q n w h hok hK
/-- What Do comes to. -/
inductive RRes (k A B q : Int) (n : List UInt8) (M : List RC) : Int → Int → List RC → Prop
  | arg (h : (nameB n && opB k A B) = false) : RRes k A B q n M 0 1 M
  | there (h : (nameB n && opB k A B) = true) (hk : k = 1) (c : RC) (hl : rlook n M = some c) : RRes k A B q n M 0 101 M
  | cap (h : (nameB n && opB k A B) = true) (hk : k = 1) (hl : rlook n M = none) (hq : A < B) : RRes k A B q n M 0 61 M
  | made (h : (nameB n && opB k A B) = true) (hk : k = 1) (hl : rlook n M = none) (hq : ¬ A < B) : RRes k A B q n M 0 0 (insR (newRC n A B) M)
  | none (h : (nameB n && opB k A B) = true) (hk : k ≠ 1) (hl : rlook n M = none) : RRes k A B q n M 0 100 M
  | err (h : (nameB n && opB k A B) = true) (hk : k ≠ 1) (c : RC) (hl : rlook n M = some c) (he : (rcO k A B q c).1.2 ≠ 0) : RRes k A B q n M 0 (rcO k A B q c).1.2 M
  | ok (h : (nameB n && opB k A B) = true) (hk : k ≠ 1) (c c' : RC) (i : Nat) (hl : rlook n M = some c) (hi : M[i]? = some c) (he : (rcO k A B q c).1.2 = 0) (hd : c'.nm = c.nm ∧ c'.cap = (rcO k A B q c).2.1 ∧ c'.val = (rcO k A B q c).2.2.1 ∧ c'.H = (rcO k A B q c).2.2.2.1 ∧ c'.U = (rcO k A B q c).2.2.2.2) : RRes k A B q n M (rcO k A B q c).1.1 0 (M.set i c')
/-- Whose lists a map's counters may hold. -/
def hasL (M : List RC) (k : Nat) : Prop := ∃ c ∈ M, c.hv.ownBlock = some k ∨ c.uv.ownBlock = some k
def DoPostR (B0 rb : Nat) (v : Value) (k A B q : Int) (n : List UInt8) (M : List RC) (w : World) (e : Ending) (w' : World) : Prop :=
  ∃ a er M', e = .returned (.tuple #[.int .i64 a, .int .i64 er]) ∧ RRes k A B q n M a er M' ∧ RDone B0 rb v w M' w' ∧ (∀ c ∈ M', c.Rd B0 w') ∧ ∀ j, hasL M' j → hasL M j ∨ w.heap.size ≤ j
set_option maxRecDepth 100000 in
set_option maxHeartbeats 6400000 in
theorem rdo_c {B0 K rb i : Nat} {v : Value} {M : List RC} {c : RC} (k A B q : Int) (n : List UInt8) (w : World) (h : RMap B0 rb v M w) (hB0 : B0 ≤ w.heap.size) (hA : RAll B0 K M w) (hK : K ≤ 90000) (hr : (nameB n && opB k A B) = true) (hk1 : k ≠ 1) (hl : rlook n M = some c) (hi : M[i]? = some c) (hbe : ∀ (j : Nat) (x : RC), j < i → M[j]? = some x → x.nm ≠ n) (hnl : n.length ≤ 140737488355328) :
    Calls Try.prog 36 #[.pointer (some ⟨rb, 0, none⟩), .agg #[.int .i64 k, .string ⟨n.toArray⟩, .int .i64 A, .int .i64 B], .int .i64 q] w (DoPostR B0 rb v k A B q n M w) := by
  have hop : opB k A B = true := by rw [Bool.and_eq_true] at hr; exact hr.2
  have hcm := List.mem_of_getElem? hi
  obtain ⟨ob, hob⟩ : ∃ b, b = w.heap.size := ⟨_, rfl⟩
  obtain ⟨X0, hX⟩ : ∃ X, X = w.alloc (.cells #[.int .i64 k, .string ⟨n.toArray⟩, .int .i64 A, .int .i64 B] 31) := ⟨_, rfl⟩
  have hbX : Below w.heap.size w X0 := by rw [hX]; exact (Below.refl _ _).alloc (Nat.le_refl _) _
  have hB : Blk X0 ob #[.int .i64 k, .string ⟨n.toArray⟩, .int .i64 A, .int .i64 B] 31 := by rw [hX, hob]; exact heap_alloc_new w _
  have o0 : X0.cell? ⟨ob, 0, none⟩ = some (.int .i64 k) := hB.cell 0
  have o1 : X0.cell? ⟨ob, 1, none⟩ = some (.string ⟨n.toArray⟩) := hB.cell 1
  have o2 : X0.cell? ⟨ob, 2, none⟩ = some (.int .i64 A) := hB.cell 2
  have o3 : X0.cell? ⟨ob, 3, none⟩ = some (.int .i64 B) := hB.cell 3
  have HRI : Hid _ := rright_any k A B n X0 hnl
  rw [hr] at HRI
  have HBO : Hid (Blk X0 ob #[.int .i64 k, .string ⟨n.toArray⟩, .int .i64 A, .int .i64 B] 31) := hB
  have HBX : Hid (Below w.heap.size w X0) := hbX
  have HM0 : Hid (RMap B0 rb v M X0) := h.more hbX
  have HMw : Hid (RMap B0 rb v M w) := h
  have HAw : Hid (RAll B0 K M w) := hA
  have HA0 : Hid (RAll B0 K M X0) := hA.more hbX
  have HFD : Hid (∀ X, Below X0.heap.size X0 X → Calls Try.prog 59 #[.pointer (some ⟨rb, 0, none⟩), .string ⟨n.toArray⟩] X fun e w' => e = .returned (.int .i64 (i : Nat)) ∧ w' = X) := fun X hX => find_yes X (HM0.out.more hX) (Nat.le_trans hA.len (by omega)) hi (rlook_mem hl).2 hbe
  have HDN0 : Hid (∀ X, Below X0.heap.size X0 X → Calls Try.prog 60 #[.agg #[.string ⟨c.nm.toArray⟩, .int .i64 c.cap, .int .i64 c.val, c.hv, c.uv], .agg #[.int .i64 k, .string ⟨n.toArray⟩, .int .i64 A, .int .i64 B], .int .i64 q] X (DnPost B0 X c (rcO k A B q c))) := fun X hX => rdone_any k A B q n X ((hA.rd c hcm).more (hbX.trans (hX.mono hbX.size) |>.mono (Nat.le_refl _))) (hA.ok c hcm) hK (Nat.le_trans hB0 (hbX.trans (hX.mono hbX.size)).size) hop hk1
  have HHR : Hid ((nameB n && opB k A B) = true) := hr
  have HL : Hid (rlook n M = some c) := hl
  have HI : Hid (M[i]? = some c) := hi
  have HB0 : Hid (B0 ≤ w.heap.size) := hB0
  have hilt : i < M.length := (List.getElem?_eq_some_iff.1 hi).1
  obtain ⟨NN, hNN⟩ : ∃ N, N = M.length := ⟨_, rfl⟩
  have HNN : Hid (NN = M.length) := hNN
  rw [← hNN] at hilt
  have hNK : NN ≤ 90000 := by rw [hNN]; exact Nat.le_trans hA.len hK
  have hk2 : (k == 1) = false := by simpa using hk1
  obtain ⟨R, hR⟩ : ∃ R, R = rcO k A B q c := ⟨_, rfl⟩
  have HR : Hid (R = rcO k A B q c) := hR
  rw [← hR] at HDN0
  clear h hA hr hl hi hbe hnl hbX hB hop hcm hB0 hNN hR
  go_enter Try.func36, Try.ntmps36
  go_upto_region 1 with fail
  rw [← hX, ← hob]
  clear hX hob
  go_wp2_with fail
  refine Calls.mono HRI.out ?_
  rintro e9 X ⟨rfl, hbX1⟩
  have HBX1 : Hid (Below X0.heap.size X0 X) := hbX1
  have hBO := HBO.out.below hbX1 HBO.out.lt
  have p0 : X.cell? ⟨ob, 0, none⟩ = some (.int .i64 k) := hBO.cell 0
  have p1 : X.cell? ⟨ob, 1, none⟩ = some (.string ⟨n.toArray⟩) := hBO.cell 1
  have HBOX : Hid (Blk X ob #[.int .i64 k, .string ⟨n.toArray⟩, .int .i64 A, .int .i64 B] 31) := hBO
  have HWX : Hid (Below w.heap.size w X) := HBX.out.trans (hbX1.mono HBX.out.size)
  clear hbX1 hBO HRI o0 o1 o2 o3
  go_wp2_with fail
  refine Calls.mono (HFD.out X HBX1.out) ?_
  rintro e9 w9 ⟨rfl, hw⟩
  replace hw := hw.symm
  subst hw
  have hi0 : ¬ (i : Int) < 0 := by omega
  have hMX := HMw.out.more HWX.out
  have hrow := hMX.row
  rw [← HNN.out] at hrow
  obtain ⟨g, rc, hg, _, _, hgl, hcell⟩ := own_at' hrow (by omega)
  subst hg
  have HRX : Hid (Blk X rb #[.slice (some ⟨g, 0, none⟩) NN rc] 90) := hMX.box
  have HROW : Hid (X.ownsRow B0 94 5 (.slice (some ⟨g, 0, none⟩) NN rc) NN (flatR M)) := hrow
  have k0 : X.cell? ⟨g, i * 5, none⟩ = some (.string ⟨c.nm.toArray⟩) := hcell (i * 5) _ (flatR_at 0 HI.out (by decide))
  have k1 : X.cell? ⟨g, i * 5 + 1, none⟩ = some (.int .i64 c.cap) := hcell (i * 5 + 1) _ (flatR_at 1 HI.out (by decide))
  have k2 : X.cell? ⟨g, i * 5 + 2, none⟩ = some (.int .i64 c.val) := hcell (i * 5 + 2) _ (flatR_at 2 HI.out (by decide))
  have k3 : X.cell? ⟨g, i * 5 + 3, none⟩ = some c.hv := hcell (i * 5 + 3) _ (flatR_at 3 HI.out (by decide))
  have k4 : X.cell? ⟨g, i * 5 + 4, none⟩ = some c.uv := hcell (i * 5 + 4) _ (flatR_at 4 HI.out (by decide))
  have HC0 : Hid (Blk ({ X with drawn := X.drawn + 1 } : World) rb #[.slice (some ⟨g, 0, none⟩) NN rc] 90 ∧ Blk ({ X with drawn := X.drawn + 1 } : World) ob #[.int .i64 k, .string ⟨n.toArray⟩, .int .i64 A, .int .i64 B] 31 ∧ ({ X with drawn := X.drawn + 1 } : World).cell? ⟨g, i * 5, none⟩ = some (.string ⟨c.nm.toArray⟩) ∧ ({ X with drawn := X.drawn + 1 } : World).cell? ⟨g, i * 5 + 1, none⟩ = some (.int .i64 c.cap) ∧ ({ X with drawn := X.drawn + 1 } : World).cell? ⟨g, i * 5 + 2, none⟩ = some (.int .i64 c.val) ∧ ({ X with drawn := X.drawn + 1 } : World).cell? ⟨g, i * 5 + 3, none⟩ = some (c.hv) ∧ ({ X with drawn := X.drawn + 1 } : World).cell? ⟨g, i * 5 + 4, none⟩ = some (c.uv)) := ⟨HRX.out, HBOX.out, k0, k1, k2, k3, k4⟩
  have HCK2 : Hid (∀ W, Below X.heap.size X W → Blk W rb #[.slice (some ⟨g, 0, none⟩) NN rc] 90 ∧ Blk W ob #[.int .i64 k, .string ⟨n.toArray⟩, .int .i64 A, .int .i64 B] 31 ∧ W.cell? ⟨g, i * 5, none⟩ = some (.string ⟨c.nm.toArray⟩) ∧ W.cell? ⟨g, i * 5 + 1, none⟩ = some (.int .i64 c.cap) ∧ W.cell? ⟨g, i * 5 + 2, none⟩ = some (.int .i64 c.val) ∧ W.cell? ⟨g, i * 5 + 3, none⟩ = some (c.hv) ∧ W.cell? ⟨g, i * 5 + 4, none⟩ = some (c.uv)) := fun W hW => ⟨HRX.out.below hW HRX.out.lt, HBOX.out.below hW HBOX.out.lt, cell_belowR hW k0, cell_belowR hW k1, cell_belowR hW k2, cell_belowR hW k3, cell_belowR hW k4⟩
  have HDN : Hid (∀ W, Below X.heap.size X W → Calls Try.prog 60 #[.agg #[.string ⟨c.nm.toArray⟩, .int .i64 c.cap, .int .i64 c.val, c.hv, c.uv], .agg #[.int .i64 k, .string ⟨n.toArray⟩, .int .i64 A, .int .i64 B], .int .i64 q] W (DnPost B0 W c R)) := fun W hW => HDN0.out W (HBX1.out.trans (hW.mono HBX1.out.size))
  clear hMX hrow hgl hcell k0 k1 k2 k3 k4 HDN0 HFD p0 p1
  go_wp2_with fail
  rename_i KK hKK
  try rw [show ∀ a : Act, a.put none undef = a from fun _ => rfl]
  have hrest : ∀ (a : Act) (f' : Nat → Value) (Y : World) (bx : Nat) (c' : RC) (ho uo : Option Addr) (hn hc un uc : Nat), Fr 56 a f' → f' 0 = Value.pointer (some ⟨rb, 0, none⟩) → f' 9 = Value.int .i64 (i : Nat) → f' 10 = Value.pointer (some ⟨bx, 0, none⟩) → f' 11 = Value.int .i64 R.1.1 → f' 12 = Value.int .i64 R.1.2 → Blk Y bx #[.string ⟨c'.nm.toArray⟩, .int .i64 c'.cap, .int .i64 c'.val, .slice ho hn hc, .slice uo un uc] 94 → Below X.heap.size X Y → c'.Rd B0 Y → (c'.nm = c.nm ∧ c'.cap = R.2.1 ∧ c'.val = R.2.2.1 ∧ c'.H = R.2.2.2.1 ∧ c'.U = R.2.2.2.2) → ((∀ k, c'.hv.ownBlock = some k → c.hv.ownBlock = some k ∨ X.heap.size ≤ k) ∧ ∀ k, c'.uv.ownBlock = some k → c.uv.ownBlock = some k ∨ X.heap.size ≤ k) → c'.hv = .slice ho hn hc → c'.uv = .slice uo un uc → X.heap.size ≤ bx → KK a Y := by
    intro a f' Y bx c' ho uo hn hc un uc F' j0 j9 j10 j11 j12 hBy hXY hrdY hdat hfr hhv huv hbx
    refine hKK _ _ ?_
    rw [F'.lit, show ((List.range 56).map f').toArray = #[f' 0, f' 1, f' 2, f' 3, f' 4, f' 5, f' 6, f' 7, f' 8, f' 9, f' 10, f' 11, f' 12, f' 13, f' 14, f' 15, f' 16, f' 17, f' 18, f' 19, f' 20, f' 21, f' 22, f' 23, f' 24, f' 25, f' 26, f' 27, f' 28, f' 29, f' 30, f' 31, f' 32, f' 33, f' 34, f' 35, f' 36, f' 37, f' 38, f' 39, f' 40, f' 41, f' 42, f' 43, f' 44, f' 45, f' 46, f' 47, f' 48, f' 49, f' 50, f' 51, f' 52, f' 53, f' 54, f' 55] from rfl, j0, j9, j10, j11, j12]
    have HBY : Hid (Blk Y bx #[.string ⟨c'.nm.toArray⟩, .int .i64 c'.cap, .int .i64 c'.val, .slice ho hn hc, .slice uo un uc] 94) := hBy
    have HXY : Hid (Below X.heap.size X Y) := hXY
    have HRY : Hid (Blk Y rb #[.slice (some ⟨g, 0, none⟩) NN rc] 90) := HRX.out.below hXY HRX.out.lt
    have HWY : Hid (Below w.heap.size w Y) := HWX.out.trans (hXY.mono HWX.out.size)
    have hrowY := ownsRow_same HROW.out (fun g hg => hXY.block g (ownsRow_lt HROW.out hg).2)
    have HRD : Hid (c'.Rd B0 Y) := hrdY
    have HDAT : Hid (c'.nm = c.nm ∧ c'.cap = R.2.1 ∧ c'.val = R.2.2.1 ∧ c'.H = R.2.2.2.1 ∧ c'.U = R.2.2.2.2) := hdat
    have HFR : Hid ((∀ k, c'.hv.ownBlock = some k → c.hv.ownBlock = some k ∨ X.heap.size ≤ k) ∧ ∀ k, c'.uv.ownBlock = some k → c.uv.ownBlock = some k ∨ X.heap.size ≤ k) := hfr
    have HCM : Hid (c ∈ M) := List.mem_of_getElem? HI.out
    by_cases hre : R.1.2 = 0
    · have q1 : (R.1.2 == 0) = true := by simpa using hre
      have hr1 := own_cell (v := .string ⟨c'.nm.toArray⟩) hrowY (k := i * 5) (by omega)
      have hr2 := own_cell (v := .int .i64 c'.cap) hr1.1 (k := i * 5 + 1) (by omega)
      have hr3 := own_cell (v := .int .i64 c'.val) hr2.1 (k := i * 5 + 2) (by omega)
      have hr4 := own_cell (v := .slice ho hn hc) hr3.1 (k := i * 5 + 3) (by omega)
      have hr5 := own_cell (v := .slice uo un uc) hr4.1 (k := i * 5 + 4) (by omega)
      have a2 := own_cell (v := .int .i64 0) hrowY (k := i * 5 + 1) (by omega)
      have a3 := own_cell (v := .int .i64 0) hrowY (k := i * 5 + 2) (by omega)
      have a4 := own_cell (v := .int .i64 0) hrowY (k := i * 5 + 3) (by omega)
      have a5 := own_cell (v := .int .i64 0) hrowY (k := i * 5 + 4) (by omega)
      obtain ⟨u0, s0⟩ := hr1.2.2
      obtain ⟨u1, s1⟩ := a2.2.2
      obtain ⟨u2, s2⟩ := a3.2.2
      obtain ⟨u3, s3⟩ := a4.2.2
      obtain ⟨u4, s4⟩ := a5.2.2
      have t0 := hr1.2.1
      have t1 := a2.2.1
      have t2 := a3.2.1
      have t3 := a4.2.1
      have t4 := a5.2.1
      have hset := flatR_set M i c' (by rw [← HNN.out]; exact hilt)
      rw [hhv, huv] at hset
      obtain ⟨Y2, hY2⟩ : ∃ Y2, Y2 = ((((World.setCell ({ Y with drawn := Y.drawn + 1 } : World) ⟨g, i * 5, none⟩ (.string ⟨c'.nm.toArray⟩)).setCell ⟨g, i * 5 + 1, none⟩ (.int .i64 c'.cap)).setCell ⟨g, i * 5 + 2, none⟩ (.int .i64 c'.val)).setCell ⟨g, i * 5 + 3, none⟩ (.slice ho hn hc)).setCell ⟨g, i * 5 + 4, none⟩ (.slice uo un uc) := ⟨_, rfl⟩
      have hcY : Chg (fun k => k = g) Y Y2 := by
        rw [hY2]
        have h0 : Chg (fun k => k = g) Y ({ Y with drawn := Y.drawn + 1 } : World) := Chg.drewN (Chg.refl _ _) 1
        exact (h0.trans (((((setCell_chg _ _ _ _).trans (setCell_chg _ _ _ _) (fun _ _ e => e)).trans (setCell_chg _ _ _ _) (fun _ _ e => e)).trans (setCell_chg _ _ _ _) (fun _ _ e => e)).trans (setCell_chg _ _ _ _) (fun _ _ e => e)) (fun _ _ e => e))
      have hgY : ∃ cu, Blk Y g cu 94 := by obtain ⟨cu, hcu⟩ := ownsRow_type hrowY rfl; exact ⟨cu, hcu⟩
      have hrow2 : Y2.ownsRow B0 94 5 (.slice (some ⟨g, 0, none⟩) NN rc) NN (flatR (M.set i c')) := by
        rw [hset, hY2]
        exact hr5.1
      have HM2 : Hid (RMap B0 rb (.slice (some ⟨g, 0, none⟩) NN rc) (M.set i c') Y2) := ⟨hcY.blk HRY.out (fun e => by obtain ⟨cu, hcu⟩ := hgY; exact Blk.ne_t HRY.out hcu (by decide) e), by rw [List.length_set, ← HNN.out]; exact hrow2⟩
      have HRD2 : Hid (∀ x ∈ M.set i c', x.Rd B0 Y2) := fun x hx => by
        obtain ⟨cu, hcu⟩ := hgY
        rcases List.mem_or_eq_of_mem_set hx with hx | rfl
        · exact ((HAw.out.rd x hx).more HWY.out).box94 hcu hcY
        · exact HRD.out.box94 hcu hcY
      have HCH : Hid (Chg (fun k => k = rb ∨ (Value.slice (some ⟨g, 0, none⟩) NN rc).ownBlock = some k) w Y2) := (Chg.ofBelow _ HWY.out).trans hcY (fun j _ e => Or.inr (by rw [e]; rfl))
      have HFS : Hid (∀ j, hasL (M.set i c') j → hasL M j ∨ w.heap.size ≤ j) := fun j ⟨x, hx, hv⟩ => by
        rcases List.mem_or_eq_of_mem_set hx with hx | rfl
        · exact Or.inl ⟨x, hx, hv⟩
        · rcases hv with hv | hv
          · rcases HFR.out.1 j hv with h | h
            · exact Or.inl ⟨c, HCM.out, Or.inl h⟩
            · exact Or.inr (Nat.le_trans HWX.out.size h)
          · rcases HFR.out.2 j hv with h | h
            · exact Or.inl ⟨c, HCM.out, Or.inr h⟩
            · exact Or.inr (Nat.le_trans HWX.out.size h)
      have HRS : Hid (RRes k A B q n M R.1.1 0 (M.set i c')) := show RRes k A B q n M R.1.1 0 (M.set i c') from by
        have hd := HDAT.out
        rw [HR.out] at hd hre ⊢
        exact RRes.ok HHR.out hk1 c c' i HL.out HI.out hre hd
      clear hKK F' j0 j9 j10 j11 j12 hBy hXY hrdY hdat hfr hhv huv hbx hrowY hr1 hr2 hr3 hr4 hr5 a2 a3 a4 a5 hset hcY hgY hrow2
      go_wp2_with fail
      first | rename_i KK hKK | skip
      try rw [show ∀ a : Act, a.put none undef = a from fun _ => rfl]
      refine wp_region_mix (fun wq => Blk wq rb #[.slice (some ⟨g, 0, none⟩) NN rc] 90 ∧ Blk wq bx #[.string ⟨c'.nm.toArray⟩, .int .i64 c'.cap, .int .i64 c'.val, .slice ho hn hc, .slice uo un uc] 94 ∧ wq = ({ Y with drawn := Y.drawn + 1 } : World)) (fun i => i == 7) 7 (by kernel_rfl) rfl (by kernel_rfl) (by kernel_rfl) (by kernel_rfl) ?_
      refine withFrP (N := 56) rfl ?_
      intro f0 F0 hff
      have ee0 : f0 0 = Value.pointer (some ⟨rb, 0, none⟩) := hff 0
      have ee9 : f0 9 = Value.int .i64 (i : Nat) := hff 9
      have ee10 : f0 10 = Value.pointer (some ⟨bx, 0, none⟩) := hff 10
      clear hff
      have HCC : (fun wq => Blk wq rb #[.slice (some ⟨g, 0, none⟩) NN rc] 90 ∧ Blk wq bx #[.string ⟨c'.nm.toArray⟩, .int .i64 c'.cap, .int .i64 c'.val, .slice ho hn hc, .slice uo un uc] 94 ∧ wq = ({ Y with drawn := Y.drawn + 1 } : World)) (({ Y with drawn := Y.drawn + 1 } : World)) := ⟨HRY.out, HBY.out, rfl⟩
      refine lyp F0 rfl HCC rfl (by omega) (wanted_none rfl) (v := Value.pointer (some ⟨rb, 0, none⟩)) (fun wr hwr => by simp only [execOp, (F0.eval 0 (by omega)).trans (show _ = Value.pointer (some ⟨rb, 0, none⟩) from by simp [upd, ee0, ee9, ee10])]; first | rfl | simp [go_sem]) fun F1 => ?_
      refine lyp F1 rfl HCC rfl (by omega) (wanted_none rfl) (v := Value.pointer (some ⟨rb, 0, none⟩)) (fun wr hwr => by simp only [execOp, (F1.eval 48 (by omega)).trans (show _ = Value.pointer (some ⟨rb, 0, none⟩) from by simp [upd, ee0, ee9, ee10])]; simp [go_sem]) fun F2 => ?_
      refine lyp F2 rfl HCC rfl (by omega) (wanted_none rfl) (v := Value.pointer (some ⟨rb, 0, none⟩)) (fun wr hwr => by simp only [execOp, (F2.eval 49 (by omega)).trans (show _ = Value.pointer (some ⟨rb, 0, none⟩) from by simp [upd, ee0, ee9, ee10])]; simp [go_sem]) fun F3 => ?_
      refine lyp F3 rfl HCC rfl (by omega) (wanted_none rfl) (v := Value.slice (some ⟨g, 0, none⟩) NN rc) (fun wr hwr => by simp only [execOp, (F3.eval 50 (by omega)).trans (show _ = Value.pointer (some ⟨rb, 0, none⟩) from by simp [upd, ee0, ee9, ee10])]; simp [go_sem, show wr.cell? ⟨rb, 0, none⟩ = some (.slice (some ⟨g, 0, none⟩) NN rc) from hwr.1.cell 0]) fun F4 => ?_
      refine lyp F4 rfl HCC rfl (by omega) (wanted_none rfl) (v := Value.int .i64 (i : Nat)) (fun wr hwr => by simp only [execOp, (F4.eval 9 (by omega)).trans (show _ = Value.int .i64 (i : Nat) from by simp [upd, ee0, ee9, ee10])]; first | rfl | simp [go_sem]) fun F5 => ?_
      refine lyp F5 rfl HCC rfl (by omega) (wanted_none rfl) (v := Value.agg #[.string ⟨c'.nm.toArray⟩, .int .i64 c'.cap, .int .i64 c'.val, .slice ho hn hc, .slice uo un uc]) (fun wr hwr => by simp only [execOp, (F5.eval 10 (by omega)).trans (show _ = Value.pointer (some ⟨bx, 0, none⟩) from by simp [upd, ee0, ee9, ee10])]; simp [go_sem, show wr.cell? ⟨bx, 0, none⟩ = some (.string ⟨c'.nm.toArray⟩) from hwr.2.1.cell 0, show wr.cell? ⟨bx, 1, none⟩ = some (.int .i64 c'.cap) from hwr.2.1.cell 1, show wr.cell? ⟨bx, 2, none⟩ = some (.int .i64 c'.val) from hwr.2.1.cell 2, show wr.cell? ⟨bx, 3, none⟩ = some (.slice ho hn hc) from hwr.2.1.cell 3, show wr.cell? ⟨bx, 4, none⟩ = some (.slice uo un uc) from hwr.2.1.cell 4]) fun F6 => ?_
      refine lyp F6 rfl HCC rfl (by omega) (wanted_none rfl) (v := Value.pointer (some ⟨g, i * 5, none⟩)) (fun wr hwr => by simp only [execOp, (F6.eval 51 (by omega)).trans (show _ = Value.slice (some ⟨g, 0, none⟩) NN rc from by simp [upd, ee0, ee9, ee10]), (F6.eval 52 (by omega)).trans (show _ = Value.int .i64 (i : Nat) from by simp [upd, ee0, ee9, ee10])]; simp only [Sem.run_bind, Sem.run_pure, Result.andThen_ok, idx_run 88 94 5 Try.underlying88 (by kernel_rfl) wr g 0 NN rc i (by omega), Nat.zero_add]; try rfl) fun F7 => ?_
      refine lst rfl HCC rfl (wanted_none rfl) (w1 := Y2) (by simp only [execOp, (F7.eval 54 (by omega)).trans (show _ = Value.pointer (some ⟨g, i * 5, none⟩) from by simp [upd, ee0, ee9, ee10]), (F7.eval 53 (by omega)).trans (show _ = Value.agg #[.string ⟨c'.nm.toArray⟩, .int .i64 c'.cap, .int .i64 c'.val, .slice ho hn hc, .slice uo un uc] from by simp [upd, ee0, ee9, ee10])]; rw [hY2]; simp [go_sem, s0, s1, s2, s3, s4, t0, t1, t2, t3, t4]) ?_
      refine ⟨(fun h => absurd h (by decide)), ?_⟩
      first | refine hKK _ _ ?_ | skip
      clear F0 F1 F2 F3 F4 F5 F6 F7 ee0 ee9 ee10 HCC
      simp only [Act.put, List.setIfInBounds_toArray, List.set_cons_succ, List.set_cons_zero]
      clear s0 s1 s2 s3 s4 t0 t1 t2 t3 t4 hY2
      go_wp2_with fail
      go_ret2
      exact ⟨_, _, _, rfl, HRS.out, ⟨⟨_, HM2.out, fun k hk => Or.inl hk⟩, HCH.out⟩, HRD2.out, HFS.out⟩
    · have q1 : (R.1.2 == 0) = false := by simpa using hre
      have q3 : (R.1.2 != 0) = true := by simpa using hre
      have HRS : Hid (RRes k A B q n M 0 R.1.2 M) := show RRes k A B q n M 0 R.1.2 M from by
        rw [HR.out] at hre ⊢
        exact RRes.err HHR.out hk1 c HL.out hre
      clear hKK F' j0 j9 j10 j11 j12 hBy hXY hrdY hdat hfr hhv huv hbx hrowY
      go_wp2_with fail
      go_ret2
      exact ⟨_, _, _, rfl, HRS.out, RDone.ofBelow HMw.out HWY.out, fun x hx => (HAw.out.rd x hx).more HWY.out, fun j hj => Or.inl hj⟩
  refine wp_region_plan (fun wq => Blk wq rb #[.slice (some ⟨g, 0, none⟩) NN rc] 90 ∧ Blk wq ob #[.int .i64 k, .string ⟨n.toArray⟩, .int .i64 A, .int .i64 B] 31 ∧ wq.cell? ⟨g, i * 5, none⟩ = some (.string ⟨c.nm.toArray⟩) ∧ wq.cell? ⟨g, i * 5 + 1, none⟩ = some (.int .i64 c.cap) ∧ wq.cell? ⟨g, i * 5 + 2, none⟩ = some (.int .i64 c.val) ∧ wq.cell? ⟨g, i * 5 + 3, none⟩ = some (c.hv) ∧ wq.cell? ⟨g, i * 5 + 4, none⟩ = some (c.uv)) (fun i => i == 9 || i == 14 || i == 15 || i == 99) 99 (.one 0 (.one 1 (.one 2 (.one 3 (.one 4 (.one 5 (.one 6 (.one 7 (.one 8 (.two 9 14 (.one 10 (.one 11 (.one 12 (.one 13 (.one 14 (.one 15 (.one 16 (.one 17 (.done))))))))) (.one 9 (.one 10 (.one 11 (.one 12 (.one 13 (.one 15 (.one 16 (.one 17 (.done))))))))))))))))))) (by kernel_rfl) rfl (by kernel_rfl) (by kernel_rfl) rfl (by kernel_rfl) ?_
  refine withFrG (N := 56) rfl ?_
  intro a0 f0 F0 hff
  have hs0 : f0 0 = Value.pointer (some ⟨rb, 0, none⟩) := hff 0
  have hs2 : f0 2 = Value.int .i64 q := hff 2
  have hs4 : f0 4 = Value.pointer (some ⟨ob, 0, none⟩) := hff 4
  have hs9 : f0 9 = Value.int .i64 (i : Nat) := hff 9
  clear hff
  have hC0 : (fun wq => Blk wq rb #[.slice (some ⟨g, 0, none⟩) NN rc] 90 ∧ Blk wq ob #[.int .i64 k, .string ⟨n.toArray⟩, .int .i64 A, .int .i64 B] 31 ∧ wq.cell? ⟨g, i * 5, none⟩ = some (.string ⟨c.nm.toArray⟩) ∧ wq.cell? ⟨g, i * 5 + 1, none⟩ = some (.int .i64 c.cap) ∧ wq.cell? ⟨g, i * 5 + 2, none⟩ = some (.int .i64 c.val) ∧ wq.cell? ⟨g, i * 5 + 3, none⟩ = some (c.hv) ∧ wq.cell? ⟨g, i * 5 + 4, none⟩ = some (c.uv)) ({ X with drawn := X.drawn + 1 } : World) := HC0.out
  refine py (k := 0) rfl F0 rfl hC0 rfl (by omega) (wanted_none rfl) (v := Value.pointer (some ⟨rb, 0, none⟩)) (fun wr hwr => by simp only [execOp, (F0.eval 0 (by omega)).trans (show _ = Value.pointer (some ⟨rb, 0, none⟩) from by simp [upd, hs0, hs2, hs4, hs9])]; first | rfl | simp [go_sem]) fun a1 F1 => ?_
  refine py (k := 1) rfl F1 rfl hC0 rfl (by omega) (wanted_none rfl) (v := Value.pointer (some ⟨rb, 0, none⟩)) (fun wr hwr => by simp only [execOp, (F1.eval 32 (by omega)).trans (show _ = Value.pointer (some ⟨rb, 0, none⟩) from by simp [upd, hs0, hs2, hs4, hs9])]; simp [go_sem]) fun a2 F2 => ?_
  refine py (k := 2) rfl F2 rfl hC0 rfl (by omega) (wanted_none rfl) (v := Value.pointer (some ⟨rb, 0, none⟩)) (fun wr hwr => by simp only [execOp, (F2.eval 33 (by omega)).trans (show _ = Value.pointer (some ⟨rb, 0, none⟩) from by simp [upd, hs0, hs2, hs4, hs9])]; simp [go_sem]) fun a3 F3 => ?_
  refine py (k := 3) rfl F3 rfl hC0 rfl (by omega) (wanted_none rfl) (v := Value.slice (some ⟨g, 0, none⟩) NN rc) (fun wr hwr => by simp only [execOp, (F3.eval 34 (by omega)).trans (show _ = Value.pointer (some ⟨rb, 0, none⟩) from by simp [upd, hs0, hs2, hs4, hs9])]; simp [go_sem, show wr.cell? ⟨rb, 0, none⟩ = some (.slice (some ⟨g, 0, none⟩) NN rc) from hwr.1.cell 0]) fun a4 F4 => ?_
  refine py (k := 4) rfl F4 rfl hC0 rfl (by omega) (wanted_none rfl) (v := Value.int .i64 (i : Nat)) (fun wr hwr => by simp only [execOp, (F4.eval 9 (by omega)).trans (show _ = Value.int .i64 (i : Nat) from by simp [upd, hs0, hs2, hs4, hs9])]; first | rfl | simp [go_sem]) fun a5 F5 => ?_
  refine py (k := 5) rfl F5 rfl hC0 rfl (by omega) (wanted_none rfl) (v := Value.pointer (some ⟨g, i * 5, none⟩)) (fun wr hwr => by simp only [execOp, (F5.eval 35 (by omega)).trans (show _ = Value.slice (some ⟨g, 0, none⟩) NN rc from by simp [upd, hs0, hs2, hs4, hs9]), (F5.eval 36 (by omega)).trans (show _ = Value.int .i64 (i : Nat) from by simp [upd, hs0, hs2, hs4, hs9])]; simp only [Sem.run_bind, Sem.run_pure, Result.andThen_ok, idx_run 88 94 5 Try.underlying88 (by kernel_rfl) wr g 0 NN rc i (by omega), Nat.zero_add]; try rfl) fun a6 F6 => ?_
  refine py (k := 6) rfl F6 rfl hC0 rfl (by omega) (wanted_none rfl) (v := Value.agg #[.string ⟨c.nm.toArray⟩, .int .i64 c.cap, .int .i64 c.val, c.hv, c.uv]) (fun wr hwr => by simp only [execOp, (F6.eval 37 (by omega)).trans (show _ = Value.pointer (some ⟨g, i * 5, none⟩) from by simp [upd, hs0, hs2, hs4, hs9])]; simp [go_sem, hwr.2.2.1, hwr.2.2.2.1, hwr.2.2.2.2.1, hwr.2.2.2.2.2.1, hwr.2.2.2.2.2.2]) fun a7 F7 => ?_
  refine py (k := 7) rfl F7 rfl hC0 rfl (by omega) (wanted_none rfl) (v := Value.agg #[.int .i64 k, .string ⟨n.toArray⟩, .int .i64 A, .int .i64 B]) (fun wr hwr => by simp only [execOp, (F7.eval 4 (by omega)).trans (show _ = Value.pointer (some ⟨ob, 0, none⟩) from by simp [upd, hs0, hs2, hs4, hs9])]; simp [go_sem, show wr.cell? ⟨ob, 0, none⟩ = some (.int .i64 k) from hwr.2.1.cell 0, show wr.cell? ⟨ob, 1, none⟩ = some (.string ⟨n.toArray⟩) from hwr.2.1.cell 1, show wr.cell? ⟨ob, 2, none⟩ = some (.int .i64 A) from hwr.2.1.cell 2, show wr.cell? ⟨ob, 3, none⟩ = some (.int .i64 B) from hwr.2.1.cell 3]) fun a8 F8 => ?_
  refine py (k := 8) rfl F8 rfl hC0 rfl (by omega) (wanted_none rfl) (v := Value.int .i64 q) (fun wr hwr => by simp only [execOp, (F8.eval 2 (by omega)).trans (show _ = Value.int .i64 q from by simp [upd, hs0, hs2, hs4, hs9])]; first | rfl | simp [go_sem]) fun a9 F9 => ?_
  refine pfork hC0 ?_ ?_
  · refine pc' (k := 9) rfl F9 rfl rfl (by omega) (wanted_none rfl) (g := 60) (args := #[Value.agg #[.string ⟨c.nm.toArray⟩, .int .i64 c.cap, .int .i64 c.val, c.hv, c.uv], Value.agg #[.int .i64 k, .string ⟨n.toArray⟩, .int .i64 A, .int .i64 B], Value.int .i64 q]) (by simp only [execOp, resolve, invoke, List.map_toArray, List.map_cons, List.map_nil, (F9.eval 38 (by omega)).trans (show _ = Value.agg #[.string ⟨c.nm.toArray⟩, .int .i64 c.cap, .int .i64 c.val, c.hv, c.uv] from by simp [upd, hs0, hs2, hs4, hs9]), (F9.eval 39 (by omega)).trans (show _ = Value.agg #[.int .i64 k, .string ⟨n.toArray⟩, .int .i64 A, .int .i64 B] from by simp [upd, hs0, hs2, hs4, hs9]), (F9.eval 40 (by omega)).trans (show _ = Value.int .i64 q from by simp [upd, hs0, hs2, hs4, hs9])]; simp [go_sem, Act.eval]) (HDN.out ({ X with drawn := X.drawn + 1 } : World) (Below.drew (Below.refl _ _))) ?_
    rintro e9 V1 ⟨c', rfl, hdat, hrd, hfr, hb1⟩
    obtain ⟨ho, hc, hhv, _⟩ := own_slice hrd.h
    obtain ⟨uo, uc, huv, _⟩ := own_slice hrd.u
    obtain ⟨hn, hhn⟩ : ∃ x, x = c'.H.length := ⟨_, rfl⟩
    obtain ⟨un, hun⟩ : ∃ x, x = c'.U.length := ⟨_, rfl⟩
    rw [← hhn] at hhv
    rw [← hun] at huv
    have hcs : RC.cs c' = #[.string ⟨c'.nm.toArray⟩, .int .i64 c'.cap, .int .i64 c'.val, .slice ho hn hc, .slice uo un uc] := by unfold RC.cs; rw [hhv, huv]
    rw [hcs]
    refine ⟨_, rfl, fun aA1 FA1 => ?_⟩
    have hX1 : Below X.heap.size X V1 := (Below.drew (Below.refl X.heap.size X)).trans hb1
    have hC1 : (fun wq => Blk wq rb #[.slice (some ⟨g, 0, none⟩) NN rc] 90 ∧ Blk wq ob #[.int .i64 k, .string ⟨n.toArray⟩, .int .i64 A, .int .i64 B] 31 ∧ wq.cell? ⟨g, i * 5, none⟩ = some (.string ⟨c.nm.toArray⟩) ∧ wq.cell? ⟨g, i * 5 + 1, none⟩ = some (.int .i64 c.cap) ∧ wq.cell? ⟨g, i * 5 + 2, none⟩ = some (.int .i64 c.val) ∧ wq.cell? ⟨g, i * 5 + 3, none⟩ = some (c.hv) ∧ wq.cell? ⟨g, i * 5 + 4, none⟩ = some (c.uv)) V1 := HCK2.out V1 hX1
    refine py (k := 10) rfl FA1 rfl hC1 rfl (by omega) (wanted_none rfl) (v := Value.tuple #[.agg #[.string ⟨c'.nm.toArray⟩, .int .i64 c'.cap, .int .i64 c'.val, .slice ho hn hc, .slice uo un uc], .int .i64 R.1.1, .int .i64 R.1.2]) (fun wr hwr => by simp only [execOp, (FA1.eval 41 (by omega)).trans (show _ = Value.tuple #[.agg #[.string ⟨c'.nm.toArray⟩, .int .i64 c'.cap, .int .i64 c'.val, .slice ho hn hc, .slice uo un uc], .int .i64 R.1.1, .int .i64 R.1.2] from by simp [upd, hs0, hs2, hs4, hs9])]; first | rfl | simp [go_sem]) fun aA2 FA2 => ?_
    refine py (k := 11) rfl FA2 rfl hC1 rfl (by omega) (wanted_none rfl) (v := Value.agg #[.string ⟨c'.nm.toArray⟩, .int .i64 c'.cap, .int .i64 c'.val, .slice ho hn hc, .slice uo un uc]) (fun wr hwr => by simp only [execOp, (FA2.eval 31 (by omega)).trans (show _ = Value.tuple #[.agg #[.string ⟨c'.nm.toArray⟩, .int .i64 c'.cap, .int .i64 c'.val, .slice ho hn hc, .slice uo un uc], .int .i64 R.1.1, .int .i64 R.1.2] from by simp [upd, hs0, hs2, hs4, hs9])]; simp [go_sem]) fun aA3 FA3 => ?_
    refine py (k := 12) rfl FA3 rfl hC1 rfl (by omega) (wanted_none rfl) (v := Value.int .i64 R.1.1) (fun wr hwr => by simp only [execOp, (FA3.eval 31 (by omega)).trans (show _ = Value.tuple #[.agg #[.string ⟨c'.nm.toArray⟩, .int .i64 c'.cap, .int .i64 c'.val, .slice ho hn hc, .slice uo un uc], .int .i64 R.1.1, .int .i64 R.1.2] from by simp [upd, hs0, hs2, hs4, hs9])]; simp [go_sem]) fun aA4 FA4 => ?_
    refine py (k := 13) rfl FA4 rfl hC1 rfl (by omega) (wanted_none rfl) (v := Value.int .i64 R.1.2) (fun wr hwr => by simp only [execOp, (FA4.eval 31 (by omega)).trans (show _ = Value.tuple #[.agg #[.string ⟨c'.nm.toArray⟩, .int .i64 c'.cap, .int .i64 c'.val, .slice ho hn hc, .slice uo un uc], .int .i64 R.1.1, .int .i64 R.1.2] from by simp [upd, hs0, hs2, hs4, hs9])]; simp [go_sem]) fun aA5 FA5 => ?_
    refine pe (k := 14) rfl FA5 rfl hC1 rfl (by omega) (wanted_none rfl) (v := Value.pointer (some ⟨V1.heap.size, 0, none⟩)) (w1 := V1.alloc (.cells #[.string ⟨#[]⟩, .int .i64 0, .int .i64 0, .slice none 0 0, .slice none 0 0] 94)) (by simp only [execOp]; simp [go_sem, zero94]) fun aA6 FA6 => ?_
    have hBz : Blk (V1.alloc (.cells #[.string ⟨#[]⟩, .int .i64 0, .int .i64 0, .slice none 0 0, .slice none 0 0] 94)) V1.heap.size #[.string ⟨#[]⟩, .int .i64 0, .int .i64 0, .slice none 0 0, .slice none 0 0] 94 := heap_alloc_new V1 _
    have hbz : Below V1.heap.size V1 (V1.alloc (.cells #[.string ⟨#[]⟩, .int .i64 0, .int .i64 0, .slice none 0 0, .slice none 0 0] 94)) := (Below.refl _ _).alloc (Nat.le_refl _) _
    have hX2 : Below X.heap.size X (V1.alloc (.cells #[.string ⟨#[]⟩, .int .i64 0, .int .i64 0, .slice none 0 0, .slice none 0 0] 94)) := hX1.trans (hbz.mono hX1.size)
    have hC2 : (fun wq => Blk wq rb #[.slice (some ⟨g, 0, none⟩) NN rc] 90 ∧ Blk wq ob #[.int .i64 k, .string ⟨n.toArray⟩, .int .i64 A, .int .i64 B] 31 ∧ wq.cell? ⟨g, i * 5, none⟩ = some (.string ⟨c.nm.toArray⟩) ∧ wq.cell? ⟨g, i * 5 + 1, none⟩ = some (.int .i64 c.cap) ∧ wq.cell? ⟨g, i * 5 + 2, none⟩ = some (.int .i64 c.val) ∧ wq.cell? ⟨g, i * 5 + 3, none⟩ = some (c.hv) ∧ wq.cell? ⟨g, i * 5 + 4, none⟩ = some (c.uv)) (V1.alloc (.cells #[.string ⟨#[]⟩, .int .i64 0, .int .i64 0, .slice none 0 0, .slice none 0 0] 94)) := HCK2.out _ hX2
    have hrd2 := hrd.more hbz
    obtain ⟨Y, hY⟩ : ∃ Y, Y = (World.setCell (World.setCell (World.setCell (World.setCell (World.setCell (V1.alloc (.cells #[.string ⟨#[]⟩, .int .i64 0, .int .i64 0, .slice none 0 0, .slice none 0 0] 94)) ⟨V1.heap.size, 0, none⟩ (.string ⟨c'.nm.toArray⟩)) ⟨V1.heap.size, 1, none⟩ (.int .i64 c'.cap)) ⟨V1.heap.size, 2, none⟩ (.int .i64 c'.val)) ⟨V1.heap.size, 3, none⟩ (.slice ho hn hc)) ⟨V1.heap.size, 4, none⟩ (.slice uo un uc)) := ⟨_, rfl⟩
    have hBy : Blk Y V1.heap.size #[.string ⟨c'.nm.toArray⟩, .int .i64 c'.cap, .int .i64 c'.val, .slice ho hn hc, .slice uo un uc] 94 := by rw [hY]; exact (((((Blk.set hBz 0 _).set 1 _).set 2 _).set 3 _).set 4 _)
    have hc2 : Chg (fun k => k = V1.heap.size) (V1.alloc (.cells #[.string ⟨#[]⟩, .int .i64 0, .int .i64 0, .slice none 0 0, .slice none 0 0] 94)) Y := by rw [hY]; exact ((((setCell_chg _ _ _ _).trans (setCell_chg _ _ _ _) (fun _ _ e => e)).trans (setCell_chg _ _ _ _) (fun _ _ e => e)).trans (setCell_chg _ _ _ _) (fun _ _ e => e)).trans (setCell_chg _ _ _ _) (fun _ _ e => e)
    have hXY : Below X.heap.size X Y := Below.trans hX2 (hc2.below (hX2).size (fun k e => by rw [e]; exact hX1.size))
    have hCY : (fun wq => Blk wq rb #[.slice (some ⟨g, 0, none⟩) NN rc] 90 ∧ Blk wq ob #[.int .i64 k, .string ⟨n.toArray⟩, .int .i64 A, .int .i64 B] 31 ∧ wq.cell? ⟨g, i * 5, none⟩ = some (.string ⟨c.nm.toArray⟩) ∧ wq.cell? ⟨g, i * 5 + 1, none⟩ = some (.int .i64 c.cap) ∧ wq.cell? ⟨g, i * 5 + 2, none⟩ = some (.int .i64 c.val) ∧ wq.cell? ⟨g, i * 5 + 3, none⟩ = some (c.hv) ∧ wq.cell? ⟨g, i * 5 + 4, none⟩ = some (c.uv)) Y := HCK2.out Y hXY
    have hrdY : c'.Rd B0 Y := hrd2.box94 hBz hc2
    refine ps (k := 15) rfl rfl (hC2) rfl (wanted_none rfl) (w1 := Y) (by rw [hY]; exact storeC hBz rfl ((FA6.eval 10 (by omega)).trans (show _ = Value.pointer (some ⟨V1.heap.size, 0, none⟩) from by simp [upd, hs0, hs2, hs4, hs9])) ((FA6.eval 42 (by omega)).trans (show _ = Value.agg #[.string ⟨c'.nm.toArray⟩, .int .i64 c'.cap, .int .i64 c'.val, .slice ho hn hc, .slice uo un uc] from by simp [upd, hs0, hs2, hs4, hs9]))) ?_
    refine py (k := 16) rfl FA6 rfl hCY rfl (by omega) (wanted_none rfl) (v := Value.int .i64 R.1.1) (fun wr hwr => by simp only [execOp, (FA6.eval 43 (by omega)).trans (show _ = Value.int .i64 R.1.1 from by simp [upd, hs0, hs2, hs4, hs9])]; first | rfl | simp [go_sem]) fun aA7 FA7 => ?_
    refine py (k := 17) rfl FA7 rfl hCY rfl (by omega) (wanted_none rfl) (v := Value.int .i64 R.1.2) (fun wr hwr => by simp only [execOp, (FA7.eval 44 (by omega)).trans (show _ = Value.int .i64 R.1.2 from by simp [upd, hs0, hs2, hs4, hs9])]; first | rfl | simp [go_sem]) fun aA8 FA8 => ?_
    refine pdone (fun _ => hCY) ?_
    exact hrest _ _ Y V1.heap.size c' ho uo hn hc un uc FA8 (show _ = Value.pointer (some ⟨rb, 0, none⟩) from by simp [upd, hs0, hs2, hs4, hs9]) (show _ = Value.int .i64 (i : Nat) from by simp [upd, hs0, hs2, hs4, hs9]) (show _ = Value.pointer (some ⟨V1.heap.size, 0, none⟩) from by simp [upd, hs0, hs2, hs4, hs9]) (show _ = Value.int .i64 R.1.1 from by simp [upd, hs0, hs2, hs4, hs9]) (show _ = Value.int .i64 R.1.2 from by simp [upd, hs0, hs2, hs4, hs9]) hBy hXY hrdY hdat ⟨fun k hk => (hfr.1 k hk).imp id (fun e => Nat.le_trans ((Below.drew (Below.refl X.heap.size X)).size) e), fun k hk => (hfr.2 k hk).imp id (fun e => Nat.le_trans ((Below.drew (Below.refl X.heap.size X)).size) e)⟩ hhv huv (hX1.size)
  · refine pe' (k := 14) rfl F9 rfl rfl (by omega) (wanted_none rfl) (v := Value.pointer (some ⟨X.heap.size, 0, none⟩)) (w1 := ({ X with drawn := X.drawn + 1 } : World).alloc (.cells #[.string ⟨#[]⟩, .int .i64 0, .int .i64 0, .slice none 0 0, .slice none 0 0] 94)) (by simp only [execOp]; simp [go_sem, zero94]) fun aD1 FD1 => ?_
    have hBz0 : Blk (({ X with drawn := X.drawn + 1 } : World).alloc (.cells #[.string ⟨#[]⟩, .int .i64 0, .int .i64 0, .slice none 0 0, .slice none 0 0] 94)) X.heap.size #[.string ⟨#[]⟩, .int .i64 0, .int .i64 0, .slice none 0 0, .slice none 0 0] 94 := heap_alloc_new ({ X with drawn := X.drawn + 1 } : World) _
    have hX0 : Below X.heap.size X (({ X with drawn := X.drawn + 1 } : World).alloc (.cells #[.string ⟨#[]⟩, .int .i64 0, .int .i64 0, .slice none 0 0, .slice none 0 0] 94)) := (Below.drew (Below.refl _ _)).alloc (Nat.le_refl _) _
    have hCa : (fun wq => Blk wq rb #[.slice (some ⟨g, 0, none⟩) NN rc] 90 ∧ Blk wq ob #[.int .i64 k, .string ⟨n.toArray⟩, .int .i64 A, .int .i64 B] 31 ∧ wq.cell? ⟨g, i * 5, none⟩ = some (.string ⟨c.nm.toArray⟩) ∧ wq.cell? ⟨g, i * 5 + 1, none⟩ = some (.int .i64 c.cap) ∧ wq.cell? ⟨g, i * 5 + 2, none⟩ = some (.int .i64 c.val) ∧ wq.cell? ⟨g, i * 5 + 3, none⟩ = some (c.hv) ∧ wq.cell? ⟨g, i * 5 + 4, none⟩ = some (c.uv)) (({ X with drawn := X.drawn + 1 } : World).alloc (.cells #[.string ⟨#[]⟩, .int .i64 0, .int .i64 0, .slice none 0 0, .slice none 0 0] 94)) := HCK2.out _ hX0
    refine pc (k := 9) rfl FD1 rfl hCa rfl (by omega) (wanted_none rfl) (g := 60) (args := #[Value.agg #[.string ⟨c.nm.toArray⟩, .int .i64 c.cap, .int .i64 c.val, c.hv, c.uv], Value.agg #[.int .i64 k, .string ⟨n.toArray⟩, .int .i64 A, .int .i64 B], Value.int .i64 q]) (by simp only [execOp, resolve, invoke, List.map_toArray, List.map_cons, List.map_nil, (FD1.eval 38 (by omega)).trans (show _ = Value.agg #[.string ⟨c.nm.toArray⟩, .int .i64 c.cap, .int .i64 c.val, c.hv, c.uv] from by simp [upd, hs0, hs2, hs4, hs9]), (FD1.eval 39 (by omega)).trans (show _ = Value.agg #[.int .i64 k, .string ⟨n.toArray⟩, .int .i64 A, .int .i64 B] from by simp [upd, hs0, hs2, hs4, hs9]), (FD1.eval 40 (by omega)).trans (show _ = Value.int .i64 q from by simp [upd, hs0, hs2, hs4, hs9])]; simp [go_sem, Act.eval]) (HDN.out (({ X with drawn := X.drawn + 1 } : World).alloc (.cells #[.string ⟨#[]⟩, .int .i64 0, .int .i64 0, .slice none 0 0, .slice none 0 0] 94)) hX0) ?_
    rintro e9 V1 ⟨c', rfl, hdat, hrd, hfr, hb1⟩
    obtain ⟨ho, hc, hhv, _⟩ := own_slice hrd.h
    obtain ⟨uo, uc, huv, _⟩ := own_slice hrd.u
    obtain ⟨hn, hhn⟩ : ∃ x, x = c'.H.length := ⟨_, rfl⟩
    obtain ⟨un, hun⟩ : ∃ x, x = c'.U.length := ⟨_, rfl⟩
    rw [← hhn] at hhv
    rw [← hun] at huv
    have hcs : RC.cs c' = #[.string ⟨c'.nm.toArray⟩, .int .i64 c'.cap, .int .i64 c'.val, .slice ho hn hc, .slice uo un uc] := by unfold RC.cs; rw [hhv, huv]
    rw [hcs]
    refine ⟨_, rfl, fun aD2 FD2 => ?_⟩
    have hBz : Blk V1 X.heap.size #[.string ⟨#[]⟩, .int .i64 0, .int .i64 0, .slice none 0 0, .slice none 0 0] 94 := hBz0.below hb1 hBz0.lt
    have hX1 : Below X.heap.size X V1 := hX0.trans (hb1.mono hX0.size)
    have hC1 : (fun wq => Blk wq rb #[.slice (some ⟨g, 0, none⟩) NN rc] 90 ∧ Blk wq ob #[.int .i64 k, .string ⟨n.toArray⟩, .int .i64 A, .int .i64 B] 31 ∧ wq.cell? ⟨g, i * 5, none⟩ = some (.string ⟨c.nm.toArray⟩) ∧ wq.cell? ⟨g, i * 5 + 1, none⟩ = some (.int .i64 c.cap) ∧ wq.cell? ⟨g, i * 5 + 2, none⟩ = some (.int .i64 c.val) ∧ wq.cell? ⟨g, i * 5 + 3, none⟩ = some (c.hv) ∧ wq.cell? ⟨g, i * 5 + 4, none⟩ = some (c.uv)) V1 := HCK2.out V1 hX1
    refine py (k := 10) rfl FD2 rfl hC1 rfl (by omega) (wanted_none rfl) (v := Value.tuple #[.agg #[.string ⟨c'.nm.toArray⟩, .int .i64 c'.cap, .int .i64 c'.val, .slice ho hn hc, .slice uo un uc], .int .i64 R.1.1, .int .i64 R.1.2]) (fun wr hwr => by simp only [execOp, (FD2.eval 41 (by omega)).trans (show _ = Value.tuple #[.agg #[.string ⟨c'.nm.toArray⟩, .int .i64 c'.cap, .int .i64 c'.val, .slice ho hn hc, .slice uo un uc], .int .i64 R.1.1, .int .i64 R.1.2] from by simp [upd, hs0, hs2, hs4, hs9])]; first | rfl | simp [go_sem]) fun aD3 FD3 => ?_
    refine py (k := 11) rfl FD3 rfl hC1 rfl (by omega) (wanted_none rfl) (v := Value.agg #[.string ⟨c'.nm.toArray⟩, .int .i64 c'.cap, .int .i64 c'.val, .slice ho hn hc, .slice uo un uc]) (fun wr hwr => by simp only [execOp, (FD3.eval 31 (by omega)).trans (show _ = Value.tuple #[.agg #[.string ⟨c'.nm.toArray⟩, .int .i64 c'.cap, .int .i64 c'.val, .slice ho hn hc, .slice uo un uc], .int .i64 R.1.1, .int .i64 R.1.2] from by simp [upd, hs0, hs2, hs4, hs9])]; simp [go_sem]) fun aD4 FD4 => ?_
    refine py (k := 12) rfl FD4 rfl hC1 rfl (by omega) (wanted_none rfl) (v := Value.int .i64 R.1.1) (fun wr hwr => by simp only [execOp, (FD4.eval 31 (by omega)).trans (show _ = Value.tuple #[.agg #[.string ⟨c'.nm.toArray⟩, .int .i64 c'.cap, .int .i64 c'.val, .slice ho hn hc, .slice uo un uc], .int .i64 R.1.1, .int .i64 R.1.2] from by simp [upd, hs0, hs2, hs4, hs9])]; simp [go_sem]) fun aD5 FD5 => ?_
    refine py (k := 13) rfl FD5 rfl hC1 rfl (by omega) (wanted_none rfl) (v := Value.int .i64 R.1.2) (fun wr hwr => by simp only [execOp, (FD5.eval 31 (by omega)).trans (show _ = Value.tuple #[.agg #[.string ⟨c'.nm.toArray⟩, .int .i64 c'.cap, .int .i64 c'.val, .slice ho hn hc, .slice uo un uc], .int .i64 R.1.1, .int .i64 R.1.2] from by simp [upd, hs0, hs2, hs4, hs9])]; simp [go_sem]) fun aD6 FD6 => ?_
    obtain ⟨Y, hY⟩ : ∃ Y, Y = (World.setCell (World.setCell (World.setCell (World.setCell (World.setCell V1 ⟨X.heap.size, 0, none⟩ (.string ⟨c'.nm.toArray⟩)) ⟨X.heap.size, 1, none⟩ (.int .i64 c'.cap)) ⟨X.heap.size, 2, none⟩ (.int .i64 c'.val)) ⟨X.heap.size, 3, none⟩ (.slice ho hn hc)) ⟨X.heap.size, 4, none⟩ (.slice uo un uc)) := ⟨_, rfl⟩
    have hBy : Blk Y X.heap.size #[.string ⟨c'.nm.toArray⟩, .int .i64 c'.cap, .int .i64 c'.val, .slice ho hn hc, .slice uo un uc] 94 := by rw [hY]; exact (((((Blk.set hBz 0 _).set 1 _).set 2 _).set 3 _).set 4 _)
    have hc2 : Chg (fun k => k = X.heap.size) V1 Y := by rw [hY]; exact ((((setCell_chg _ _ _ _).trans (setCell_chg _ _ _ _) (fun _ _ e => e)).trans (setCell_chg _ _ _ _) (fun _ _ e => e)).trans (setCell_chg _ _ _ _) (fun _ _ e => e)).trans (setCell_chg _ _ _ _) (fun _ _ e => e)
    have hXY : Below X.heap.size X Y := Below.trans hX1 (hc2.below (hX1).size (fun k e => by rw [e]; exact Nat.le_refl X.heap.size))
    have hCY : (fun wq => Blk wq rb #[.slice (some ⟨g, 0, none⟩) NN rc] 90 ∧ Blk wq ob #[.int .i64 k, .string ⟨n.toArray⟩, .int .i64 A, .int .i64 B] 31 ∧ wq.cell? ⟨g, i * 5, none⟩ = some (.string ⟨c.nm.toArray⟩) ∧ wq.cell? ⟨g, i * 5 + 1, none⟩ = some (.int .i64 c.cap) ∧ wq.cell? ⟨g, i * 5 + 2, none⟩ = some (.int .i64 c.val) ∧ wq.cell? ⟨g, i * 5 + 3, none⟩ = some (c.hv) ∧ wq.cell? ⟨g, i * 5 + 4, none⟩ = some (c.uv)) Y := HCK2.out Y hXY
    have hrdY : c'.Rd B0 Y := hrd.box94 hBz hc2
    refine ps (k := 15) rfl rfl (hC1) rfl (wanted_none rfl) (w1 := Y) (by rw [hY]; exact storeC hBz rfl ((FD6.eval 10 (by omega)).trans (show _ = Value.pointer (some ⟨X.heap.size, 0, none⟩) from by simp [upd, hs0, hs2, hs4, hs9])) ((FD6.eval 42 (by omega)).trans (show _ = Value.agg #[.string ⟨c'.nm.toArray⟩, .int .i64 c'.cap, .int .i64 c'.val, .slice ho hn hc, .slice uo un uc] from by simp [upd, hs0, hs2, hs4, hs9]))) ?_
    refine py (k := 16) rfl FD6 rfl hCY rfl (by omega) (wanted_none rfl) (v := Value.int .i64 R.1.1) (fun wr hwr => by simp only [execOp, (FD6.eval 43 (by omega)).trans (show _ = Value.int .i64 R.1.1 from by simp [upd, hs0, hs2, hs4, hs9])]; first | rfl | simp [go_sem]) fun aD7 FD7 => ?_
    refine py (k := 17) rfl FD7 rfl hCY rfl (by omega) (wanted_none rfl) (v := Value.int .i64 R.1.2) (fun wr hwr => by simp only [execOp, (FD7.eval 44 (by omega)).trans (show _ = Value.int .i64 R.1.2 from by simp [upd, hs0, hs2, hs4, hs9])]; first | rfl | simp [go_sem]) fun aD8 FD8 => ?_
    refine pdone (fun _ => hCY) ?_
    exact hrest _ _ Y X.heap.size c' ho uo hn hc un uc FD8 (show _ = Value.pointer (some ⟨rb, 0, none⟩) from by simp [upd, hs0, hs2, hs4, hs9]) (show _ = Value.int .i64 (i : Nat) from by simp [upd, hs0, hs2, hs4, hs9]) (show _ = Value.pointer (some ⟨X.heap.size, 0, none⟩) from by simp [upd, hs0, hs2, hs4, hs9]) (show _ = Value.int .i64 R.1.1 from by simp [upd, hs0, hs2, hs4, hs9]) (show _ = Value.int .i64 R.1.2 from by simp [upd, hs0, hs2, hs4, hs9]) hBy hXY hrdY hdat ⟨fun k hk => (hfr.1 k hk).imp id (fun e => Nat.le_trans (hX0.size) e), fun k hk => (hfr.2 k hk).imp id (fun e => Nat.le_trans (hX0.size) e)⟩ hhv huv (Nat.le_refl X.heap.size)
end Go.Proofs.Ytaiknlnjahjeiaa
