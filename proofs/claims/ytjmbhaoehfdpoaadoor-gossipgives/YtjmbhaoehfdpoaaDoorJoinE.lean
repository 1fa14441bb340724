import Derived.Test.YtjmbhaoehfdpoaaDoorVRt
import Derived.Deep.Cut
import Derived.Test.YtjmbhaoehfdpoaaDoorVVw
import Derived.Laws.Rows
import Derived.Laws.Tables
import Derived.Laws.CopyOwn
import Derived.Test.YtjmbhaoehfdpoaaDoorVBd2
import Derived.Test.YtjmbhaoehfdpoaaDoorVKn
import Derived.Test.YtjmbhaoehfdpoaaDoorVNw
import Derived.Test.YtjmbhaoehfdpoaaDoorVTk
namespace Go.Proofs.YtjmbhaoehfdpoaaDoor
open Go.RowKit Go.PlainAid
set_option linter.unusedVariables false
set_option linter.unusedSimpArgs false
set_option maxRecDepth 100000 in
set_option maxHeartbeats 1600000 in
theorem rgood_any (n : List UInt8) (W : World) (hlim : n.length ≤ 140737488355328) : Calls Tryd.prog 75 #[.string ⟨n.toArray⟩] W fun e w' => e = .returned (.bool (nameB n)) ∧ w' = W := by
  have hsz : (⟨n.toArray⟩ : ByteArray).size = n.length := rfl
  by_cases h1 : n.length < 1
  · have hr : nameB n = false := by simp [nameB]; omega
    go_enter Tryd.func75, Tryd.ntmps75
    go_wp2_with fail
    go_ret
    exact ⟨by first | rfl | (rw [hr]; rfl) | simp [hr], rfl⟩
  by_cases h2 : 16 < n.length
  · have hr : nameB n = false := by simp [nameB]; omega
    go_enter Tryd.func75, Tryd.ntmps75
    go_wp2_with fail
    go_ret
    exact ⟨by first | rfl | (rw [hr]; rfl) | simp [hr], rfl⟩
  go_enter Tryd.func75, Tryd.ntmps75
  go_wp2_with fail
  go_loopw [3] (fun i wr => ∃ q : Nat, q ≤ n.length ∧ i = .int .i64 q ∧ (∀ x ∈ n.take q, okB x = true) ∧ wr = W) (fun i _ => n.length - (intOf i).toNat)
  case atStart => exact ⟨0, Nat.zero_le _, rfl, by simp, rfl⟩
  case round =>
    obtain ⟨q, hq, rfl, hpre, rfl⟩ := hrel
    by_cases hlt : q < n.length
    · obtain ⟨b, hbb⟩ : ∃ b, b = (⟨n.toArray⟩ : ByteArray)[q]'hlt := ⟨_, rfl⟩
      have hb : n[q]? = some b := by rw [hbb]; exact List.getElem?_eq_getElem hlt
      have HP : Hid _ := hpre
      have HB : Hid _ := hb
      clear hpre hb
      by_cases c1 : b.toNat < 33
      · have hr : nameB n = false := by
          have hall : n.all okB = false := by
            apply Bool.eq_false_iff.2
            intro h
            have := List.all_eq_true.1 h b (List.mem_of_getElem? HB.out)
            simp [okB] at this
            omega
          simp [nameB, hall]
        rw [hbb] at c1
        clear hbb
        go_wp2_with fail
        go_ret
        exact ⟨by first | rfl | (rw [hr]; rfl) | simp [hr], rfl⟩
      by_cases c2 : 126 < b.toNat
      · have hr : nameB n = false := by
          have hall : n.all okB = false := by
            apply Bool.eq_false_iff.2
            intro h
            have := List.all_eq_true.1 h b (List.mem_of_getElem? HB.out)
            simp [okB] at this
            omega
          simp [nameB, hall]
        rw [hbb] at c1 c2
        clear hbb
        go_wp2_with fail
        go_ret
        exact ⟨by first | rfl | (rw [hr]; rfl) | simp [hr], rfl⟩
      · have hok : okB b = true := by simp [okB]; omega
        have HOK : Hid _ := hok
        rw [hbb] at c1 c2
        clear hok
        go_wp2_with fail
        go_roundw
        case rel => exact ⟨q + 1, by omega, by go_num, by
          intro x hx
          rw [List.take_add_one, HB.out] at hx
          rcases List.mem_append.1 hx with h | h
          · exact HP.out x h
          · simp at h; subst h; exact HOK.out, by first | rfl | trivial⟩
        case measure => simp [intOf]; omega
    · have hr : nameB n = true := by
        have : n.take q = n := List.take_of_length_le (by omega)
        rw [this] at hpre
        simp [nameB]
        exact ⟨by omega, hpre⟩
      clear hpre
      go_wp2_with fail
      go_ret
      exact ⟨by first | rfl | (rw [hr]; rfl) | simp [hr], rfl⟩
theorem fits3 (c d u h : Int) : fitsL c [d, u, h] = (decide (0 ≤ d) && decide (0 ≤ u) && decide (0 ≤ h) && decide (d + u + h ≤ c)) := by
  simp only [fitsL]
  by_cases h1 : d < 0 ∨ c < d
  · rw [if_pos h1]
    by_cases q1 : 0 ≤ d <;> by_cases q2 : 0 ≤ u <;> by_cases q3 : 0 ≤ h <;> simp [q1, q2, q3] <;> omega
  · rw [if_neg h1]
    by_cases h2 : u < 0 ∨ c - d < u
    · rw [if_pos h2]
      by_cases q1 : 0 ≤ d <;> by_cases q2 : 0 ≤ u <;> by_cases q3 : 0 ≤ h <;> simp [q1, q2, q3] <;> omega
    · rw [if_neg h2]
      by_cases h3 : h < 0 ∨ c - d - u < h
      · rw [if_pos h3]
        by_cases q1 : 0 ≤ d <;> by_cases q2 : 0 ≤ u <;> by_cases q3 : 0 ≤ h <;> simp [q1, q2, q3] <;> omega
      · rw [if_neg h3]
        have q1 : 0 ≤ d := by omega
        have q2 : 0 ≤ u := by omega
        have q3 : 0 ≤ h := by omega
        simp [q1, q2, q3]
        omega
set_option maxRecDepth 100000 in
set_option maxHeartbeats 3200000 in
theorem rright_any (e : Ent) (W : World) (hs : e.sane) : Calls Tryd.prog 67 #[viewV e] W fun r w' => r = .returned (.bool e.right) ∧ Below W.heap.size W w' := by
  obtain ⟨er, n, c, rc, v, d, u, h⟩ := e
  obtain ⟨s1, s2, s3, s4⟩ := hs
  simp only at s1 s2 s3 s4
  unfold viewV
  simp only
  obtain ⟨W1, hW1⟩ : ∃ W1, W1 = W.alloc (.cells #[.string ⟨n.toArray⟩, .int .i64 c, .int .i64 rc, .int .i64 v, .int .i64 d, .int .i64 u, .int .i64 h] 86) := ⟨_, rfl⟩
  have hB := view_box ⟨er, n, c, rc, v, d, u, h⟩ W
  simp only at hB
  have HG : Hid (Below W.heap.size W W1) := show Below W.heap.size W W1 from by rw [hW1]; exact (Below.refl _ _).alloc (Nat.le_refl _) _
  rw [← hW1] at hB
  have c0 : W1.cell? ⟨W.heap.size, 0, none⟩ = some (.string ⟨n.toArray⟩) := hB.cell 0
  have c1 : W1.cell? ⟨W.heap.size, 1, none⟩ = some (.int .i64 c) := hB.cell 1
  have c2 : W1.cell? ⟨W.heap.size, 2, none⟩ = some (.int .i64 rc) := hB.cell 2
  have c3 : W1.cell? ⟨W.heap.size, 3, none⟩ = some (.int .i64 v) := hB.cell 3
  have c4 : W1.cell? ⟨W.heap.size, 4, none⟩ = some (.int .i64 d) := hB.cell 4
  have c5 : W1.cell? ⟨W.heap.size, 5, none⟩ = some (.int .i64 u) := hB.cell 5
  have c6 : W1.cell? ⟨W.heap.size, 6, none⟩ = some (.int .i64 h) := hB.cell 6
  have HNM : Hid _ := rgood_any n W1 s1
  have HA : Hid (Ent.right ⟨er, n, c, rc, v, d, u, h⟩ = (nameB n && decide (1 ≤ c) && decide (c ≤ 1099511627776) && decide (0 ≤ rc) && decide (1 ≤ v) && (decide (0 ≤ d) && decide (0 ≤ u) && decide (0 ≤ h) && decide (d + u + h ≤ c)))) := show _ = _ from by rw [← fits3]; rfl
  generalize Ent.right ⟨er, n, c, rc, v, d, u, h⟩ = R at HA ⊢
  clear hB
  go_enter Tryd.func67, Tryd.ntmps67
  go_upto_region 1 with fail
  rw [← hW1]
  clear hW1
  go_wp2_with fail
  refine Calls.mono HNM.out ?_
  rintro e w' ⟨rfl, hw'⟩
  replace hw' := hw'.symm
  subst hw'
  cases hn : nameB n with
  | false =>
    have HN : Hid _ := hn
    clear hn
    go_wp2_with fail
    go_ret
    exact ⟨ret_bool (by rw [HA.out, HN.out]; rfl), HG.out⟩
  | true =>
    have HN : Hid _ := hn
    clear hn
    by_cases k0 : c < 1
    · have HR : Hid (R = false) := show _ = _ from by rw [HA.out, show decide (1 ≤ c) = false from decide_eq_false (by omega)]; simp
      go_wp2_with fail
      go_ret
      exact ⟨ret_bool HR.out.symm, HG.out⟩
    by_cases k1 : 1099511627776 < c
    · have HR : Hid (R = false) := show _ = _ from by rw [HA.out, show decide (c ≤ 1099511627776) = false from decide_eq_false (by omega)]; simp
      go_wp2_with fail
      go_ret
      exact ⟨ret_bool HR.out.symm, HG.out⟩
    by_cases k2 : rc < 0
    · have HR : Hid (R = false) := show _ = _ from by rw [HA.out, show decide (0 ≤ rc) = false from decide_eq_false (by omega)]; simp
      go_wp2_with fail
      go_ret
      exact ⟨ret_bool HR.out.symm, HG.out⟩
    by_cases k3 : v < 1
    · have HR : Hid (R = false) := show _ = _ from by rw [HA.out, show decide (1 ≤ v) = false from decide_eq_false (by omega)]; simp
      go_wp2_with fail
      go_ret
      exact ⟨ret_bool HR.out.symm, HG.out⟩
    by_cases k4 : d < 0
    · have HR : Hid (R = false) := show _ = _ from by rw [HA.out, show decide (0 ≤ d) = false from decide_eq_false (by omega)]; simp
      go_wp2_with fail
      go_ret
      exact ⟨ret_bool HR.out.symm, HG.out⟩
    by_cases k5 : u < 0
    · have HR : Hid (R = false) := show _ = _ from by rw [HA.out, show decide (0 ≤ u) = false from decide_eq_false (by omega)]; simp
      go_wp2_with fail
      go_ret
      exact ⟨ret_bool HR.out.symm, HG.out⟩
    by_cases k6 : h < 0
    · have HR : Hid (R = false) := show _ = _ from by rw [HA.out, show decide (0 ≤ h) = false from decide_eq_false (by omega)]; simp
      go_wp2_with fail
      go_ret
      exact ⟨ret_bool HR.out.symm, HG.out⟩
    by_cases k7 : c < d
    · have HR : Hid (R = false) := show _ = _ from by rw [HA.out, show decide (d + u + h ≤ c) = false from decide_eq_false (by omega)]; simp
      go_wp2_with fail
      go_ret
      exact ⟨ret_bool HR.out.symm, HG.out⟩
    by_cases k8 : c < u
    · have HR : Hid (R = false) := show _ = _ from by rw [HA.out, show decide (d + u + h ≤ c) = false from decide_eq_false (by omega)]; simp
      go_wp2_with fail
      go_ret
      exact ⟨ret_bool HR.out.symm, HG.out⟩
    by_cases k9 : c < h
    · have HR : Hid (R = false) := show _ = _ from by rw [HA.out, show decide (d + u + h ≤ c) = false from decide_eq_false (by omega)]; simp
      go_wp2_with fail
      go_ret
      exact ⟨ret_bool HR.out.symm, HG.out⟩
    have hw1 : IntKind.i64.wrap (d + u) = d + u := by rw [IntKind.wrap_i64]; omega
    have hw2 : IntKind.i64.wrap (d + u + h) = d + u + h := by rw [IntKind.wrap_i64]; omega
    by_cases k10 : d + u + h ≤ c
    · have HR : Hid (R = true) := show _ = _ from by rw [HA.out, HN.out]; simp; omega
      go_wp2_with fail
      go_ret
      exact ⟨ret_bool HR.out.symm, HG.out⟩
    · have HR : Hid (R = false) := show _ = _ from by rw [HA.out, show decide (d + u + h ≤ c) = false from decide_eq_false (by omega)]; simp
      go_wp2_with fail
      go_ret
      exact ⟨ret_bool (by rw [HR.out]; exact decide_eq_false (by omega)), HG.out⟩
end Go.Proofs.YtjmbhaoehfdpoaaDoor
namespace Go.Proofs.YtjmbhaoehfdpoaaDoor
open Go.RowKit Go.PlainAid Go.MapKept
set_option linter.unusedVariables false
set_option linter.unusedSimpArgs false
def Ent.cs7 (e : Ent) : Array Value := #[.string ⟨e.n.toArray⟩, .int .i64 e.c, .int .i64 e.rc, .int .i64 e.v, .int .i64 e.d, .int .i64 e.u, .int .i64 e.h]
def Ent.rw (e : Ent) : List Value := [.int .i64 e.r, .string ⟨e.n.toArray⟩, .int .i64 e.c, .int .i64 e.rc, .int .i64 e.v, .int .i64 e.d, .int .i64 e.u, .int .i64 e.h]
def flatE (A : List Ent) : List Value := A.flatMap Ent.rw
theorem flatE_length : ∀ es : List Ent, (flatE es).length = es.length * 8
  | [] => rfl
  | e :: es => by
    have := flatE_length es
    unfold flatE at *
    simp only [List.flatMap_cons, List.length_append, List.length_cons, this, Ent.rw, List.length_nil]
    omega
theorem flatE_get : ∀ (es : List Ent) (i j : Nat) (e : Ent), es[i]? = some e → j < 8 → (flatE es)[i * 8 + j]? = e.rw[j]?
  | [], i, j, e, h, _ => by simp at h
  | x :: es, 0, j, e, h, hj => by
    simp at h
    subst h
    show (x.rw ++ flatE es)[0 * 8 + j]? = _
    rw [Nat.zero_mul, Nat.zero_add, List.getElem?_append_left (by simpa [Ent.rw] using hj)]
  | x :: es, i + 1, j, e, h, hj => by
    have ih := flatE_get es i j e (by simpa using h) hj
    show (x.rw ++ flatE es)[(i + 1) * 8 + j]? = _
    rw [List.getElem?_append_right (by simp [Ent.rw]; omega)]
    rw [← ih]
    congr 1
    simp [Ent.rw]
    omega
theorem flatE_append (a b : List Ent) : flatE (a ++ b) = flatE a ++ flatE b := by simp [flatE]
/-- The document's views in memory: all that was taken. -/
structure RVw (L rb : Nat) (me n : Int) (v : Value) (A : List Ent) (w : World) : Prop where
  blk : Blk w rb #[.int .i64 me, .int .i64 n, v] 97
  row : w.ownsRow L 130 8 v A.length (flatE A)
  lo : L ≤ rb
section
variable {L rb : Nat} {me n : Int} {v : Value} {A : List Ent} {w w' : World}
theorem RVw.c0 (h : RVw L rb me n v A w) : w.cell? ⟨rb, 0, none⟩ = some (.int .i64 me) := h.blk.cell 0
theorem RVw.c1 (h : RVw L rb me n v A w) : w.cell? ⟨rb, 1, none⟩ = some (.int .i64 n) := h.blk.cell 1
theorem RVw.c2 (h : RVw L rb me n v A w) : w.cell? ⟨rb, 2, none⟩ = some v := h.blk.cell 2
theorem RVw.keep (h : RVw L rb me n v A w) (h1 : w'.heap[rb]? = w.heap[rb]?) (h2 : ∀ g, v.ownBlock = some g → w'.heap[g]? = w.heap[g]?) : RVw L rb me n v A w' := ⟨h1.trans h.blk, ownsRow_same h.row h2, h.lo⟩
theorem RVw.more (h : RVw L rb me n v A w) (hb : Below w.heap.size w w') : RVw L rb me n v A w' := h.keep (hb.block _ h.blk.lt) (fun g hg => hb.block _ (ownsRow_lt h.row hg).2)
end
/-- The cells of the entry j. -/
structure EAt (w : World) (g o : Nat) (e : Ent) : Prop where
  c0 : w.cell? ⟨g, o, none⟩ = some (.int .i64 e.r)
  c1 : w.cell? ⟨g, o + 1, none⟩ = some (.string ⟨e.n.toArray⟩)
  c2 : w.cell? ⟨g, o + 1 + 1, none⟩ = some (.int .i64 e.c)
  c3 : w.cell? ⟨g, o + 1 + 2, none⟩ = some (.int .i64 e.rc)
  c4 : w.cell? ⟨g, o + 1 + 3, none⟩ = some (.int .i64 e.v)
  c5 : w.cell? ⟨g, o + 1 + 4, none⟩ = some (.int .i64 e.d)
  c6 : w.cell? ⟨g, o + 1 + 5, none⟩ = some (.int .i64 e.u)
  c7 : w.cell? ⟨g, o + 1 + 6, none⟩ = some (.int .i64 e.h)
theorem RVw.at {L rb : Nat} {me n : Int} {v : Value} {A : List Ent} {w : World} (h : RVw L rb me n v A w) : ∃ ao cap, v = .slice ao A.length cap ∧ A.length ≤ cap ∧ (0 < A.length → ∃ g, ao = some ⟨g, 0, none⟩ ∧ L ≤ g ∧ ∀ j e, A[j]? = some e → EAt w g (j * 8) e) := by
  obtain ⟨ao, cap, hv, hc, _, hg⟩ := own_read h.row
  refine ⟨ao, cap, hv, hc, fun h0 => ?_⟩
  obtain ⟨g, h1, h2, h3, h4⟩ := hg h0
  refine ⟨g, h1, h2, fun j e he => ?_⟩
  have hq : ∀ t, t < 8 → ∀ u, e.rw[t]? = some u → w.cell? ⟨g, j * 8 + t, none⟩ = some u := fun t ht u hu => h4 _ _ (by rw [flatE_get A j t e he ht]; exact hu)
  exact ⟨hq 0 (by decide) _ rfl, hq 1 (by decide) _ rfl, hq 2 (by decide) _ rfl, hq 3 (by decide) _ rfl, hq 4 (by decide) _ rfl, hq 5 (by decide) _ rfl, hq 6 (by decide) _ rfl, hq 7 (by decide) _ rfl⟩
theorem EAt.below {w w' : World} {g o : Nat} {e : Ent} (h : EAt w g o e) (hb : w'.heap[g]? = w.heap[g]?) : EAt w' g o e :=
  have k : ∀ j, w'.cell? ⟨g, j, none⟩ = w.cell? ⟨g, j, none⟩ := fun j => World.cell?_of_block (w := w) hb
  ⟨(k _).trans h.c0, (k _).trans h.c1, (k _).trans h.c2, (k _).trans h.c3, (k _).trans h.c4, (k _).trans h.c5, (k _).trans h.c6, (k _).trans h.c7⟩
/-- The last one of a replica and a name. -/
def lastD (r : Int) (n : List UInt8) (A : List Ent) : Ent := A.foldl (fun x e => if isK r n e = true then e else x) zed
theorem lastD_app (r : Int) (n : List UInt8) (A : List Ent) (e : Ent) : lastD r n (A ++ [e]) = if isK r n e = true then e else lastD r n A := by simp [lastD]
theorem take_snoc {α : Type} {l : List α} {j : Nat} {e : α} (h : l[j]? = some e) : l.take (j + 1) = l.take j ++ [e] := by rw [List.take_add_one, h]; rfl
theorem info46 : (Tryd.prog.info? 86).map (·.size) = some 7 := by kernel_rfl
theorem cs7_one (e : Ent) : (e.cs7).all (·.oneCell') = true := by simp [Ent.cs7, Value.oneCell']
/-- last's two boxes. -/
structure LB (w : World) (b : Nat) (x : Ent) (wr : World) : Prop where
  a : Blk wr b zed.cs7 86
  b' : Blk wr (b + 1) x.cs7 86
  bel : Below w.heap.size w wr
theorem LB.set {w : World} {b : Nat} {x : Ent} {wr : World} (h : LB w b x wr) (hb : b = w.heap.size) (e : Ent) : LB w b e (wr.setRow (b + 1) e.cs7) :=
  ⟨(setRow_other _ _ _ _ (by omega)).trans h.a, setRow_heap _ _ _ _ 86 _ h.b', below_setRow h.bel (by omega) _⟩
theorem LB.fin {w : World} {b : Nat} {x : Ent} {wr : World} (h : LB w b x wr) (hb : b = w.heap.size) (e : Ent) : Blk (wr.setRow b e.cs7) b e.cs7 86 ∧ Below w.heap.size w (wr.setRow b e.cs7) :=
  ⟨setRow_heap _ _ _ _ 86 _ h.a, below_setRow h.bel (by omega) _⟩
set_option maxRecDepth 100000 in
set_option maxHeartbeats 1600000 in
theorem rlast_any {L rb : Nat} {me N : Int} {v : Value} {A : List Ent} (r : Int) (n : List UInt8) (w : World) (hV : RVw L rb me N v A w) (hL : A.length ≤ 100000) :
    Calls Tryd.prog 61 #[.pointer (some ⟨rb, 0, none⟩), .int .i64 r, .string ⟨n.toArray⟩] w fun e w' => e = .returned (viewV (lastD r n A)) ∧ Below w.heap.size w w' := by
  obtain ⟨ao, cap, hv, hcap, hat⟩ := hV.at
  subst hv
  obtain ⟨M, hM⟩ : ∃ M, M = A.length := ⟨_, rfl⟩
  obtain ⟨b6, hb6⟩ : ∃ b, b = w.heap.size := ⟨_, rfl⟩
  obtain ⟨X, hX⟩ : ∃ X, X = (w.alloc (.cells #[.string ⟨#[]⟩, .int .i64 0, .int .i64 0, .int .i64 0, .int .i64 0, .int .i64 0, .int .i64 0] 86)).alloc (.cells #[.string ⟨#[]⟩, .int .i64 0, .int .i64 0, .int .i64 0, .int .i64 0, .int .i64 0, .int .i64 0] 86) := ⟨_, rfl⟩
  have HX : Hid (LB w b6 zed X) := show LB w b6 zed X from by
    refine ⟨?_, ?_, ?_⟩
    · rw [hX, hb6]; exact (Below.heap_alloc _ _ _ (by simp)).trans (heap_alloc_new w _)
    · rw [hX, hb6]; have := heap_alloc_new (w.alloc (.cells zed.cs7 86)) (.cells zed.cs7 86); rwa [World.size_alloc] at this
    · rw [hX]; exact ((Below.refl _ _).alloc (Nat.le_refl _) _).alloc (by simp) _
  have HV : Hid (RVw L rb me N (.slice ao M cap) A w) := show RVw L rb me N (.slice ao M cap) A w from by rw [hM]; exact hV
  have HAT : Hid (0 < A.length → ∃ g, ao = some ⟨g, 0, none⟩ ∧ L ≤ g ∧ ∀ j e, A[j]? = some e → EAt w g (j * 8) e) := hat
  have HM : Hid (M = A.length) := hM
  have HB6 : Hid (b6 = w.heap.size) := hb6
  have hML : M ≤ 100000 := by omega
  clear hV hat
  rw [← hM] at hcap
  clear hM hL
  go_enter Tryd.func61, Tryd.ntmps61
  go_upto_region 2 with fail
  rw [← hX, ← hb6]
  clear hX hb6
  go_wp2_with fail
  go_loopw [8] (fun i wr => ∃ j : Nat, j ≤ M ∧ i = .int .i64 j ∧ LB w b6 (lastD r n (A.take j)) wr) (fun i _ => M - (intOf i).toNat)
  case atStart => exact ⟨0, Nat.zero_le _, rfl, HX.out⟩
  case round =>
    obtain ⟨j, hj, rfl, hl⟩ := hrel
    have hV2 := HV.out.more hl.bel
    have c2 := hV2.c2
    clear hV2
    by_cases hlt : j < M
    · obtain ⟨e, he⟩ : ∃ e, A[j]? = some e := ⟨_, List.getElem?_eq_getElem (by rw [← HM.out]; exact hlt)⟩
      obtain ⟨g, hg, hLg, hE⟩ := HAT.out (by rw [← HM.out]; omega)
      subst hg
      have hgl : g < w.heap.size := (ownsRow_lt HV.out.row rfl).2
      obtain ⟨e0, e1, e2, e3, e4, e5, e6, e7⟩ := (hE j e he).below (hl.bel.block g hgl)
      have HS : Hid (lastD r n (A.take (j + 1)) = if isK r n e = true then e else lastD r n (A.take j)) := show _ = _ from by rw [take_snoc he, lastD_app]
      generalize lastD r n (A.take j) = x at *
      have HL : Hid (LB w b6 x wr) := hl
      clear hl hE he hgl hLg
      by_cases k1 : e.r = r
      · by_cases k2 : e.n = n
        · have HT : Hid (lastD r n (A.take (j + 1)) = e) := show _ = _ from by rw [HS.out, if_pos (isK_iff.2 ⟨k1.symm, k2.symm⟩)]
          have HB7 : Hid (Blk wr (b6 + 1) x.cs7 86) := HL.out.b'
          clear HS
          subst k2
          go_wp2_with (refine wpList_store_row rfl 86 _ _ rfl (b6 + 1) e.cs7 rfl rfl 86 _ HB7.out info46 rfl (cs7_one _) ?_)
          go_roundw
          case rel => exact ⟨j + 1, by omega, by go_num, by rw [HT.out]; exact HL.out.set HB6.out e⟩
          case measure => simp [intOf]; omega
        · have HT : Hid (lastD r n (A.take (j + 1)) = x) := show _ = _ from by rw [HS.out, if_neg (fun h => k2 (isK_iff.1 h).2.symm)]
          have k3 : (e.n == n) = false := by simpa using k2
          clear HS k2
          go_wp2_with fail
          go_roundw
          case rel => exact ⟨j + 1, by omega, by go_num, by rw [HT.out]; exact HL.out⟩
          case measure => simp [intOf]; omega
      · have HT : Hid (lastD r n (A.take (j + 1)) = x) := show _ = _ from by rw [HS.out, if_neg (fun h => k1 (isK_iff.1 h).1.symm)]
        replace k1 : (e.r == r) = false := by simpa using k1
        clear HS
        go_wp2_with fail
        go_roundw
        case rel => exact ⟨j + 1, by omega, by go_num, by rw [HT.out]; exact HL.out⟩
        case measure => simp [intOf]; omega
    · have hjm : A.take j = A := List.take_of_length_le (by rw [← HM.out]; omega)
      rw [hjm] at hl
      obtain ⟨x, hx⟩ : ∃ x, x = lastD r n A := ⟨_, rfl⟩
      rw [← hx] at hl
      have HXX : Hid (lastD r n A = x) := hx.symm
      have HL : Hid (LB w b6 x wr) := hl
      have HB6' : Hid (Blk wr b6 zed.cs7 86) := hl.a
      have e0 := hl.b'.cell 0
      have e1 := hl.b'.cell 1
      have e2 := hl.b'.cell 2
      have e3 := hl.b'.cell 3
      have e4 := hl.b'.cell 4
      have e5 := hl.b'.cell 5
      have e6 := hl.b'.cell 6
      simp only [Ent.cs7] at e0 e1 e2 e3 e4 e5 e6
      clear hl hjm hx
      go_wp2_with (refine wpList_store_row rfl 86 _ _ rfl b6 x.cs7 rfl rfl 86 _ HB6'.out info46 rfl (cs7_one _) ?_)
      obtain ⟨f1, f2⟩ := HL.out.fin HB6.out x
      refine bodyPost_ret (results_cell_row Tryd.results61 _ _ b6 86 _ (0, 0) _ rfl f1 Tryd.underlying86 rfl info46) rfl ?_
      exact ⟨by rw [HXX.out]; rfl, f2⟩
end Go.Proofs.YtjmbhaoehfdpoaaDoor
namespace Go.Proofs.YtjmbhaoehfdpoaaDoor
open Go.RowKit Go.PlainAid Go.MapKept
set_option linter.unusedVariables false
set_option linter.unusedSimpArgs false
theorem wpList_runs {ops : Array Oper} {rest : List Oper} {o : Oper} {a : Act} {Q : Exit → Act → World → Prop} {w w' : World} (hgd : o.guard = none) (s x : Operand) (t : TypeId) (ho : o.op = .call { callee := .builtin .append, args := #[s, x], argTypes := #[t, t] }) {v y v' : Value} (hs : a.eval s = v) (hx : a.eval x = y)
    (hr : ∀ ty, (Builtin.append_ #[t, t] ty #[v, y]).run Tryd.prog w = .ok v' w') (h : wpList Tryd.prog ops Q rest (a.put o.dst v') w') : wpList Tryd.prog ops Q (o :: rest) a w := by
  refine wpList_plain hgd fun K hK => ?_
  unfold Oper.wp execOp
  simp only [ho, resolve, invoke, builtin, Sem.run_bind, Sem.run_pure, Result.andThen_ok, List.map_toArray, List.map_cons, List.map_nil, hs, hx, hr]
  exact hK _ _ h
/-- An append of one element that was just laid. -/
theorem app_one (t e : TypeId) (z : Value) (size bytes : Nat) (ht : Tryd.prog.underlying t = some (.slice e)) (hinfo : (Tryd.prog.info? e).map (fun i => (i.zero, i.size, i.bytes)) = some (some z, size, bytes)) (hzz : z.cells.size = size) (hs0 : 1 ≤ size) (hb0 : 0 < bytes)
    {w : World} {base k : Nat} {v : Value} {xs : List Value} (hown : w.ownsRow base e size v k xs) (C : Array Value) (hC : C.size = size) (hone : ∀ u ∈ C.toList, u.oneCell' = true) (hby2 : (k + 1) * bytes ≤ 140737488355328) (hbase : base ≤ w.heap.size) :
    ∃ v' w', (∀ ty, (Builtin.append_ #[t, t] ty #[v, .slice (some ⟨w.heap.size, 0, none⟩) 1 1]).run Tryd.prog (w.alloc (.cells C e)) = .ok v' w') ∧ w'.ownsRow base e size v' (k + 1) (xs ++ C.toList) ∧ Grew w w' v v' := by
  obtain ⟨v', w', h1, h2, h3⟩ := app_rows t e z size bytes ht hinfo hzz hs0 hb0 (hown.alloc (.cells C e)) (ao := some ⟨w.heap.size, 0, none⟩) (m := 1) (cap := 1) (ys := C.toList) (by simp [hC]) (fun h => by cases h) (fun ad had j u hu => by
    cases had
    have hB : Blk (w.alloc (.cells C e)) w.heap.size C e := heap_alloc_new w _
    rw [addr_add, Nat.zero_add, hB.cell j]
    simpa using hu) hone hby2 (by rw [World.size_alloc]; omega)
  exact ⟨v', w', h1, h2, h3.ofAlloc⟩
theorem info9 : (Tryd.prog.info? 9).map (fun i => (i.zero, i.size, i.bytes)) = some (some (.string ⟨#[]⟩), 1, 16) := by kernel_rfl
theorem info133 : (Tryd.prog.info? 130).map (fun i => (i.zero, i.size, i.bytes)) = some (some (.agg #[.int .i64 0, .string ⟨#[]⟩, .int .i64 0, .int .i64 0, .int .i64 0, .int .i64 0, .int .i64 0, .int .i64 0]), 8, 72) := by kernel_rfl
end Go.Proofs.YtjmbhaoehfdpoaaDoor
namespace Go.Proofs.YtjmbhaoehfdpoaaDoor
open Go.RowKit Go.PlainAid Go.MapKept
set_option linter.unusedVariables false
set_option linter.unusedSimpArgs false
theorem nlt_irrefl : ∀ a : List UInt8, nlt a a = false
  | [] => rfl
  | x :: xs => by
    have := nlt_irrefl xs
    unfold nlt at *
    simp only [Op.bytesLess]
    have h : ¬ x < x := by simp only [UInt8.lt_iff_toNat_lt]; omega
    simp [h, this]
theorem nlt_trans : ∀ a b c : List UInt8, nlt a b = true → nlt b c = true → nlt a c = true
  | _, [], _, h, _ => by unfold nlt at h; cases ‹List UInt8› <;> simp [Op.bytesLess] at h
  | _, _ :: _, [], _, h => by simp [nlt, Op.bytesLess] at h
  | [], _ :: _, _ :: _, _, _ => rfl
  | x :: xs, y :: ys, z :: zs, h1, h2 => by
    have ih := nlt_trans xs ys zs
    unfold nlt at *
    simp only [Op.bytesLess, Bool.or_eq_true, decide_eq_true_eq, Bool.and_eq_true, beq_iff_eq, UInt8.lt_iff_toNat_lt] at *
    rcases h1 with h1 | ⟨rfl, h1⟩
    · rcases h2 with h2 | ⟨rfl, h2⟩
      · exact Or.inl (by omega)
      · exact Or.inl h1
    · rcases h2 with h2 | ⟨rfl, h2⟩
      · exact Or.inl h2
      · exact Or.inr ⟨rfl, ih h1 h2⟩
theorem nlt_ntrans (a b c : List UInt8) (h1 : nlt a b = false) (h2 : nlt b c = false) : nlt a c = false := by
  cases h : nlt a c
  · rfl
  · have t1 := nlt_tri b a
    rw [h1] at t1
    have t2 := nlt_tri c b
    rw [h2] at t2
    simp at t1 t2
    cases hab : nlt b a with
    | true =>
      have := nlt_trans b a c hab h
      rw [h2] at this
      cases this
    | false =>
      have e : a = b := by
        have := nlt_tri b a
        rw [hab, h1] at this
        simpa using this
      rw [e, h2] at h
      cases h
theorem nlt_ne {a b : List UInt8} (h1 : nlt a b = false) (h2 : nlt b a = false) : a = b := by
  have := nlt_tri a b
  rw [h1, h2] at this
  have h3 : b = a := by simpa using this.symm
  exact h3.symm
def sV (n : List UInt8) : Value := .string ⟨n.toArray⟩
/-- A name is put where it belongs. -/
def insN (nm : List UInt8) : List (List UInt8) → List (List UInt8)
  | [] => [nm]
  | x :: t => if nlt x nm = true then x :: insN nm t else if x = nm then nm :: t else nm :: x :: t
def nmsL (r : Int) (A : List Ent) : List (List UInt8) := A.foldl (fun o e => if e.r = r then insN e.n o else o) []
theorem nmsL_app (r : Int) (A : List Ent) (e : Ent) : nmsL r (A ++ [e]) = if e.r = r then insN e.n (nmsL r A) else nmsL r A := by simp [nmsL]
theorem insN_len (nm : List UInt8) : ∀ l, (insN nm l).length ≤ l.length + 1
  | [] => by simp [insN]
  | x :: t => by
    have := insN_len nm t
    simp only [insN]
    split
    · simp; omega
    · split <;> simp
theorem nmsL_len (r : Int) (A : List Ent) : (nmsL r A).length ≤ A.length := by
  suffices h : ∀ (A : List Ent) (o : List (List UInt8)), (A.foldl (fun o e => if e.r = r then insN e.n o else o) o).length ≤ o.length + A.length from by simpa [nmsL] using h A []
  intro A
  induction A with
  | nil => intro o; simp
  | cons e t ih =>
    intro o
    simp only [List.foldl_cons]
    refine Nat.le_trans (ih _) ?_
    have := insN_len e.n o
    split <;> simp <;> omega
/-- names under way: what is there, what is made anew. -/
structure NS (w wr : World) (vo vl : Value) (out l : List (List UInt8)) : Prop where
  ro : wr.ownsRow w.heap.size 9 1 vo out.length (out.map sV)
  rl : wr.ownsRow w.heap.size 9 1 vl l.length (l.map sV)
  ne : ∀ g, vo.ownBlock = some g → vl.ownBlock ≠ some g
  bel : Below w.heap.size w wr
theorem NS.app {w wr : World} {vo vl : Value} {out l : List (List UInt8)} (h : NS w wr vo vl out l) (s : List UInt8) (hl : l.length ≤ 200000) :
    ∃ v' w', (∀ ty, (Builtin.append_ #[127, 127] ty #[vl, .slice (some ⟨wr.heap.size, 0, none⟩) 1 1]).run Tryd.prog (wr.alloc (.cells #[.string ⟨s.toArray⟩] 9)) = .ok v' w') ∧ NS w w' vo v' out (l ++ [s]) := by
  obtain ⟨v', w', h1, h2, h3⟩ := app_one 127 9 (.string ⟨#[]⟩) 1 16 Tryd.underlying127 info9 rfl (by decide) (by decide) h.rl #[.string ⟨s.toArray⟩] rfl (fun u hu => by simp at hu; subst hu; rfl) (by omega) h.bel.size
  refine ⟨v', w', h1, ?_, ?_, ?_, ?_⟩
  · exact ownsRow_same h.ro (fun g hg => h3.g.block g (ownsRow_lt h.ro hg).2 (fun e => h.ne g hg e.symm))
  · simpa [sV] using h2
  · intro g hg hv
    rcases h3.at' g hv with h4 | h4
    · exact h.ne g hg h4
    · have := (ownsRow_lt h.ro hg).2; omega
  · exact h.bel.trans (h3.below (fun j hj => (ownsRow_lt h.rl hj).1) h.bel.size)
theorem NS.cell {w wr : World} {g0 nl capv k : Nat} {vl : Value} {out l : List (List UInt8)} (h : NS w wr (.slice (some ⟨g0, 0, none⟩) nl capv) vl out l) {x : List UInt8} (hx : out[k]? = some x) : wr.cell? ⟨g0, k, none⟩ = some (.string ⟨x.toArray⟩) := by
  obtain ⟨_, _, e, _, _, h2⟩ := own_read h.ro
  cases e
  obtain ⟨g, e, _, _, h4⟩ := h2 (by have := (List.getElem?_eq_some_iff.1 hx).1; omega)
  cases e
  exact h4 k _ (by rw [List.getElem?_map, hx]; rfl)
/-- How far the putting has come. -/
def Puts (nm : List UInt8) (out l : List (List UInt8)) (k : Nat) : Bool → Prop
  | false => l = out.take k ∧ insN nm out = out.take k ++ insN nm (out.drop k)
  | true => l ++ out.drop k = insN nm out
theorem drop_at {α : Type} {l : List α} {k : Nat} {x : α} (h : l[k]? = some x) : l.drop k = x :: l.drop (k + 1) := by
  obtain ⟨hl, rfl⟩ := List.getElem?_eq_some_iff.1 h
  exact List.drop_eq_getElem_cons hl
theorem Puts.less {nm : List UInt8} {out l : List (List UInt8)} {k : Nat} (h : Puts nm out l k false) {x : List UInt8} (hx : out[k]? = some x) (hn : nlt x nm = true) : Puts nm out (l ++ [x]) (k + 1) false := by
  obtain ⟨h1, h2⟩ := h
  refine ⟨by rw [h1, take_snoc hx], ?_⟩
  rw [h2, drop_at hx, take_snoc hx]
  simp [insN, hn]
theorem Puts.same {nm : List UInt8} {out l : List (List UInt8)} {k : Nat} (h : Puts nm out l k false) (hx : out[k]? = some nm) : Puts nm out (l ++ [nm]) (k + 1) true := by
  obtain ⟨h1, h2⟩ := h
  show _ = _
  rw [h2, drop_at hx, h1]
  simp [insN, nlt_irrefl]
theorem Puts.more {nm : List UInt8} {out l : List (List UInt8)} {k : Nat} (h : Puts nm out l k false) {x : List UInt8} (hx : out[k]? = some x) (hn : nlt x nm = false) (he : x ≠ nm) : Puts nm out (l ++ [nm] ++ [x]) (k + 1) true := by
  obtain ⟨h1, h2⟩ := h
  show _ = _
  rw [h2, drop_at hx, h1]
  simp [insN, hn, he]
theorem Puts.next {nm : List UInt8} {out l : List (List UInt8)} {k : Nat} (h : Puts nm out l k true) {x : List UInt8} (hx : out[k]? = some x) : Puts nm out (l ++ [x]) (k + 1) true := by
  have h' : l ++ out.drop k = insN nm out := h
  show _ = _
  rw [← h', drop_at hx]
  simp
theorem Puts.len {nm : List UInt8} {out l : List (List UInt8)} {k : Nat} {b : Bool} (h : Puts nm out l k b) (hk : k ≤ out.length) : l.length ≤ out.length + 1 := by
  cases b with
  | false => rw [h.1]; simp; omega
  | true =>
    have h' : l ++ out.drop k = insN nm out := h
    have h2 := congrArg List.length h'
    have h3 := insN_len nm out
    simp at h2
    omega
set_option maxRecDepth 100000 in
set_option maxHeartbeats 3200000 in
theorem names_any' {L rb : Nat} {me N : Int} {v : Value} {A : List Ent} (r : Int) (w : World) (hV : RVw L rb me N v A w) (hL : A.length ≤ 100000) :
    Calls Tryd.prog 68 #[.pointer (some ⟨rb, 0, none⟩), .int .i64 r] w fun e w' => ∃ u, e = .returned u ∧ w'.ownsRow w.heap.size 9 1 u (nmsL r A).length ((nmsL r A).map sV) ∧ Below w.heap.size w w' := by
  obtain ⟨ao, cap, hv, hcap, hat⟩ := hV.at
  subst hv
  obtain ⟨M, hM⟩ : ∃ M, M = A.length := ⟨_, rfl⟩
  have HV : Hid (RVw L rb me N (.slice ao M cap) A w) := show RVw L rb me N (.slice ao M cap) A w from by rw [hM]; exact hV
  have HAT : Hid (0 < A.length → ∃ g, ao = some ⟨g, 0, none⟩ ∧ L ≤ g ∧ ∀ j e, A[j]? = some e → EAt w g (j * 8) e) := hat
  have HM : Hid (M = A.length) := hM
  have hML : M ≤ 100000 := by omega
  clear hV hat
  rw [← hM] at hcap
  clear hM hL
  go_enter Tryd.func68, Tryd.ntmps68
  go_wp2_with fail
  go_loopw [5, 6] (fun o i wr => ∃ (j : Nat) (u : Value), u = o ∧ j ≤ M ∧ i = .int .i64 j ∧ wr.ownsRow w.heap.size 9 1 u (nmsL r (A.take j)).length ((nmsL r (A.take j)).map sV) ∧ Below w.heap.size w wr) (fun _ i _ => M - (intOf i).toNat)
  case atStart => exact ⟨0, _, rfl, Nat.zero_le _, rfl, World.ownsRow_nil _ _ _ _, Below.refl _ _⟩
  case round =>
    obtain ⟨j, u, rfl, hj, rfl, hrow, hbel⟩ := hrel
    have hV2 := HV.out.more hbel
    have c2 := hV2.c2
    clear hV2
    by_cases hlt : j < M
    · obtain ⟨e, he⟩ : ∃ e, A[j]? = some e := ⟨_, List.getElem?_eq_getElem (by rw [← HM.out]; exact hlt)⟩
      obtain ⟨g, hg, hLg, hE⟩ := HAT.out (by rw [← HM.out]; omega)
      subst hg
      have hgl : g < w.heap.size := (ownsRow_lt HV.out.row rfl).2
      have HEA : Hid (EAt w g (j * 8) e) := hE j e he
      obtain ⟨e0, e1, e2, e3, e4, e5, e6, e7⟩ := HEA.out.below (hbel.block g hgl)
      have HS : Hid (nmsL r (A.take (j + 1)) = if e.r = r then insN e.n (nmsL r (A.take j)) else nmsL r (A.take j)) := show _ = _ from by rw [take_snoc he, nmsL_app]
      have hol : (nmsL r (A.take j)).length ≤ 100000 := Nat.le_trans (nmsL_len _ _) (by rw [List.length_take]; omega)
      generalize nmsL r (A.take j) = out at *
      obtain ⟨nl, hnl⟩ : ∃ nl, nl = out.length := ⟨_, rfl⟩
      obtain ⟨aov, capv, hvv, hcv⟩ := own_slice hrow
      subst hvv
      have HNL : Hid (nl = out.length) := hnl
      have HRW : Hid (World.ownsRow wr w.heap.size 9 1 (.slice aov nl capv) nl (out.map sV)) := show World.ownsRow wr w.heap.size 9 1 (.slice aov nl capv) nl (out.map sV) from by rw [hnl]; exact hrow
      have HBL : Hid (Below w.heap.size w wr) := hbel
      rw [← hnl] at hol hcv ⊢
      clear hrow hbel hE he hLg hnl e2 e3 e4 e5 e6 e7
      by_cases k1 : e.r = r
      · have HT : Hid (nmsL r (A.take (j + 1)) = insN e.n out) := show _ = _ from by rw [HS.out, if_pos k1]
        clear HS
        go_wp2_with fail
        go_loopw [8, 9, 10] (fun s8 s9 s10 wz => ∃ (k : Nat) (vl : Value) (l : List (List UInt8)) (b : Bool), vl = s8 ∧ k ≤ nl ∧ s9 = .bool b ∧ s10 = .int .i64 k ∧ NS w wz (.slice aov nl capv) vl out l ∧ Puts e.n out l k b) (fun _ _ s10 _ => nl - (intOf s10).toNat)
        case atStart => exact ⟨0, _, [], false, rfl, Nat.zero_le _, rfl, rfl, ⟨by rw [← HNL.out]; exact HRW.out, World.ownsRow_nil _ _ _ _, (fun g _ h => by cases h), HBL.out⟩, ⟨by simp, by simp⟩⟩
        case round =>
          obtain ⟨k, vl, l, b, rfl, hk, rfl, rfl, hns, hput⟩ := hrel
          obtain ⟨al, cl, hvl, hcl⟩ := own_slice hns.rl
          subst hvl
          have hll := hput.len (by rw [← HNL.out]; exact hk)
          obtain ⟨ll, hle⟩ : ∃ ll, ll = l.length := ⟨_, rfl⟩
          have HLL : Hid (ll = l.length) := hle
          rw [← hle, ← HNL.out] at hll
          rw [← hle]
          have HNS : Hid (NS w wr (.slice aov nl capv) (.slice al ll cl) out l) := show NS w wr (.slice aov nl capv) (.slice al ll cl) out l from by rw [hle]; exact hns
          have hlb : l.length ≤ 100001 := by rw [← hle]; omega
          have HPT : Hid (Puts e.n out l k b) := hput
          by_cases hkl : k < nl
          · obtain ⟨x, hx⟩ : ∃ x, out[k]? = some x := ⟨_, List.getElem?_eq_getElem (by rw [← HNL.out]; exact hkl)⟩
            obtain ⟨g0, hg0, q0⟩ : ∃ g0, aov = some ⟨g0, 0, none⟩ ∧ wr.cell? ⟨g0, k, none⟩ = some (.string ⟨x.toArray⟩) := by
              obtain ⟨_, _, e, _, _, h⟩ := own_read hns.ro
              cases e
              obtain ⟨g, e, _, _, h4⟩ := h (by rw [← HNL.out]; omega)
              exact ⟨g, e, h4 k _ (by rw [List.getElem?_map, hx]; rfl)⟩
            subst hg0
            have HX : Hid (out[k]? = some x) := hx
            clear hns hput hx hle hcl
            cases b with
            | true =>
              obtain ⟨v1, w1, hr1, hs1⟩ := HNS.out.app x (by omega)
              have HR1 : Hid _ := hr1
              have HS1 : Hid _ := hs1
              have HPU : Hid _ := HPT.out.next HX.out
              clear hr1 hs1
              go_wp2_with (at_builtin; refine wpList_runs rfl _ _ 127 rfl rfl rfl HR1.out ?_)
              go_roundw
              case rel => exact ⟨k + 1, _, _, true, rfl, by omega, rfl, by go_num, HS1.out, HPU.out⟩
              case measure => simp [intOf]; omega
            | false =>
              by_cases hn : nlt x e.n = true
              · have hbl : Op.bytesLess x e.n = true := hn
                have HLN : Hid (nlt x e.n = true) := hn
                clear hn
                obtain ⟨v1, w1, hr1, hs1⟩ := HNS.out.app x (by omega)
                have HR1 : Hid _ := hr1
                have HS1 : Hid _ := hs1
                have HPU : Hid _ := HPT.out.less HX.out HLN.out
                clear hr1 hs1
                go_wp2_with (at_builtin; refine wpList_runs rfl _ _ 127 rfl rfl rfl HR1.out ?_)
                go_roundw
                case rel => exact ⟨k + 1, _, _, false, rfl, by omega, rfl, by go_num, HS1.out, HPU.out⟩
                case measure => simp [intOf]; omega
              · replace hn : nlt x e.n = false := by simpa using hn
                have hbl : Op.bytesLess x e.n = false := hn
                have HLN : Hid (nlt x e.n = false) := hn
                clear hn
                by_cases he : x = e.n
                · subst he
                  obtain ⟨v1, w1, hr1, hs1⟩ := HNS.out.app e.n (by omega)
                  have HR1 : Hid _ := hr1
                  have HS1 : Hid _ := hs1
                  have HPU : Hid _ := HPT.out.same HX.out
                  have q1 := hs1.cell HX.out
                  clear hr1 hs1
                  go_wp2_with (at_builtin; refine wpList_runs rfl _ _ 127 rfl rfl rfl HR1.out ?_)
                  go_roundw
                  case rel => exact ⟨k + 1, _, _, true, rfl, by omega, rfl, by go_num, HS1.out, HPU.out⟩
                  case measure => simp [intOf]; omega
                · obtain ⟨v1, w1, hr1, hs1⟩ := HNS.out.app e.n (by omega)
                  obtain ⟨v2, w2, hr2, hs2⟩ := hs1.app x (by simp; omega)
                  have q1 := hs1.cell HX.out
                  have HR1 : Hid _ := hr1
                  have HR2 : Hid _ := hr2
                  have HS2 : Hid _ := hs2
                  have HPU : Hid _ := HPT.out.more HX.out HLN.out he
                  have heb : (x == e.n) = false := by simpa using he
                  clear hr1 hs1 hr2 hs2 he
                  go_wp2_with (at_builtin; first | refine wpList_runs rfl _ _ 127 rfl rfl rfl HR1.out ?_ | refine wpList_runs rfl _ _ 127 rfl rfl rfl HR2.out ?_)
                  go_roundw
                  case rel => exact ⟨k + 1, _, _, true, rfl, by omega, rfl, by go_num, HS2.out, HPU.out⟩
                  case measure => simp [intOf]; omega
          · obtain rfl : k = nl := by omega
            clear hle hcl hns hput
            cases b with
            | true =>
              have HFI : Hid (l = insN e.n out) := show _ = _ from by
                have h : l ++ out.drop k = insN e.n out := HPT.out
                rwa [HNL.out, List.drop_length, List.append_nil] at h
              go_wp2_with fail
              go_roundw
              case rel => exact ⟨j + 1, _, rfl, by omega, by go_num, by rw [HT.out, ← HFI.out, ← HLL.out]; have := HNS.out.rl; rwa [← HLL.out] at this, HNS.out.bel⟩
              case measure => simp [intOf]; omega
            | false =>
              have HFI : Hid (l ++ [e.n] = insN e.n out) := show _ = _ from by
                have h := HPT.out.2
                rw [h, HPT.out.1, HNL.out, List.drop_length]
                rfl
              obtain ⟨v1, w1, hr1, hs1⟩ := HNS.out.app e.n (by omega)
              have HR1 : Hid _ := hr1
              have HS1 : Hid _ := hs1
              clear hr1 hs1
              go_wp2_with (at_builtin; refine wpList_runs rfl _ _ 127 rfl rfl rfl HR1.out ?_)
              go_roundw
              case rel => exact ⟨j + 1, _, rfl, by omega, by go_num, by rw [HT.out, ← HFI.out]; exact HS1.out.rl, HS1.out.bel⟩
              case measure => simp [intOf]; omega
      · have HT : Hid (nmsL r (A.take (j + 1)) = out) := show _ = _ from by rw [HS.out, if_neg k1]
        replace k1 : (e.r == r) = false := by simpa using k1
        clear HS
        go_wp2_with fail
        go_roundw
        case rel => exact ⟨j + 1, _, rfl, by omega, by go_num, by rw [HT.out, ← HNL.out]; exact HRW.out, HBL.out⟩
        case measure => simp [intOf]; omega
    · have hjm : A.take j = A := List.take_of_length_le (by rw [← HM.out]; omega)
      rw [hjm] at hrow
      have HRW : Hid (World.ownsRow wr w.heap.size 9 1 u (nmsL r A).length ((nmsL r A).map sV)) := hrow
      have HB : Hid _ := hbel
      clear hrow hbel hjm
      go_wp2_with fail
      go_ret
      exact ⟨_, rfl, HRW.out, HB.out⟩
end Go.Proofs.YtjmbhaoehfdpoaaDoor
namespace Go.Proofs.YtjmbhaoehfdpoaaDoor
open Go.RowKit Go.PlainAid Go.MapKept
set_option linter.unusedVariables false
set_option linter.unusedSimpArgs false
def raboutS (n : List UInt8) (A : List Ent) : Nat → Int
  | 0 => 0
  | k + 1 => raboutS n A k + (lastD k n A).d
def raboutK (n : List UInt8) (A : List Ent) : Nat → Bool
  | 0 => false
  | k + 1 => raboutK n A k || decide (0 < (lastD k n A).v)
theorem raboutS_le {n : List UInt8} {A : List Ent} (h : ∀ k : Int, 0 ≤ (lastD k n A).d ∧ (lastD k n A).d ≤ 1099511627776) : ∀ k, 0 ≤ raboutS n A k ∧ raboutS n A k ≤ 1099511627776 * k
  | 0 => by simp [raboutS]
  | k + 1 => by
    have ih := raboutS_le h k
    have hd := h k
    simp only [raboutS]
    omega
set_option maxRecDepth 100000 in
set_option maxHeartbeats 1600000 in
theorem rabout_any {L rb N : Nat} {me : Int} {v : Value} {A : List Ent} (n : List UInt8) (w : World) (hV : RVw L rb me N v A w) (hN : N ≤ 16) (hL : A.length ≤ 100000) (hd : ∀ k : Int, 0 ≤ (lastD k n A).d ∧ (lastD k n A).d ≤ 1099511627776) :
    Calls Tryd.prog 46 #[.pointer (some ⟨rb, 0, none⟩), .string ⟨n.toArray⟩] w fun e w' => e = .returned (.tuple #[.int .i64 (raboutS n A N), .bool (raboutK n A N)]) ∧ Below w.heap.size w w' := by
  have k1 := hV.c1
  have HLE : Hid (∀ k, 0 ≤ raboutS n A k ∧ raboutS n A k ≤ 1099511627776 * k) := raboutS_le hd
  have HV : Hid (RVw L rb me N v A w) := hV
  clear hV hd
  go_enter Tryd.func46, Tryd.ntmps46
  go_wp2_with fail
  go_loopw [6, 7, 8] (fun s b i wr => ∃ q : Nat, q ≤ N ∧ i = .int .i64 q ∧ s = .int .i64 (raboutS n A q) ∧ b = .bool (raboutK n A q) ∧ Below w.heap.size w wr) (fun _ _ i _ => N - (intOf i).toNat)
  case atStart => exact ⟨0, Nat.zero_le _, rfl, rfl, rfl, Below.refl _ _⟩
  case round =>
    obtain ⟨q, hq, rfl, rfl, rfl, hbel⟩ := hrel
    have hV2 := HV.out.more hbel
    have k2 := hV2.c1
    by_cases hlt : q < N
    · have HLA : Hid _ := rlast_any (q : Int) n wr hV2 hL
      have l1 := HLE.out q
      have l2 := HLE.out (q + 1)
      have HA : Hid (raboutS n A (q + 1) = raboutS n A q + (lastD q n A).d) := rfl
      have HK : Hid (raboutK n A (q + 1) = (raboutK n A q || decide (0 < (lastD q n A).v))) := rfl
      rw [HA.out] at l2
      generalize raboutS n A q = s0 at *
      generalize raboutK n A q = b0 at *
      generalize lastD q n A = e0 at *
      have hw : IntKind.i64.wrap (s0 + e0.d) = s0 + e0.d := by rw [IntKind.wrap_i64]; omega
      have HB : Hid _ := hbel
      clear hbel hV2 l1 l2
      unfold viewV at HLA
      go_wp2_with fail
      refine Calls.mono HLA.out ?_
      rintro e w1 ⟨rfl, hb1⟩
      have HB1 : Hid (Below w.heap.size w w1) := HB.out.trans (hb1.mono HB.out.size)
      clear hb1 HLA
      have hgr : Below w1.heap.size w1 (w1.alloc (.cells #[.string ⟨e0.n.toArray⟩, .int .i64 e0.c, .int .i64 e0.rc, .int .i64 e0.v, .int .i64 e0.d, .int .i64 e0.u, .int .i64 e0.h] 86)) := (Below.refl _ _).alloc (Nat.le_refl _) _
      have HG : Hid _ := hgr
      clear hgr
      cases b0
      · go_wp2_with fail
        go_roundw
        case rel => exact ⟨q + 1, by omega, by go_num, by rw [HA.out], by rw [HK.out]; simp, HB1.out.trans (HG.out.mono HB1.out.size)⟩
        case measure => simp [intOf]; omega
      · go_wp2_with fail
        go_roundw
        case rel => exact ⟨q + 1, by omega, by go_num, by rw [HA.out], by rw [HK.out]; rfl, HB1.out.trans (HG.out.mono HB1.out.size)⟩
        case measure => simp [intOf]; omega
    · obtain rfl : q = N := by omega
      have HB : Hid _ := hbel
      clear hbel hV2
      go_wp2_with fail
      go_ret2
      exact ⟨rfl, HB.out⟩
def rknownL (nm : List UInt8) (A : List Ent) (n : Nat) : List (Int × Int) := (List.range n).map fun (k : Nat) => ((lastD k nm A).d, (lastD k nm A).u)
theorem rknownL_succ (nm : List UInt8) (A : List Ent) (n : Nat) : rknownL nm A (n + 1) = rknownL nm A n ++ [((lastD n nm A).d, (lastD n nm A).u)] := by simp [rknownL, List.range_succ]
set_option maxRecDepth 100000 in
set_option maxHeartbeats 1600000 in
theorem rknown_any {L rb N : Nat} {me : Int} {v : Value} {A : List Ent} (n : List UInt8) (w : World) (hV : RVw L rb me N v A w) (hN : N ≤ 16) (hL : A.length ≤ 100000) :
    Calls Tryd.prog 59 #[.pointer (some ⟨rb, 0, none⟩), .string ⟨n.toArray⟩] w fun e w' => ∃ u, e = .returned u ∧ w'.ownsRow w.heap.size 36 2 u N (flatR (rknownL n A N)) ∧ Below w.heap.size w w' := by
  have k1 := hV.c1
  have HV : Hid (RVw L rb me N v A w) := hV
  clear hV
  go_enter Tryd.func59, Tryd.ntmps59
  go_wp2_with fail
  go_loopw [5, 6] (fun s i wr => ∃ (q : Nat) (u : Value), u = s ∧ q ≤ N ∧ i = .int .i64 q ∧ wr.ownsRow w.heap.size 36 2 u q (flatR (rknownL n A q)) ∧ Below w.heap.size w wr) (fun _ i _ => N - (intOf i).toNat)
  case atStart => exact ⟨0, _, rfl, Nat.zero_le _, rfl, World.ownsRow_nil _ _ _ _, Below.refl _ _⟩
  case round =>
    obtain ⟨q, u, rfl, hq, rfl, hrow, hbel⟩ := hrel
    have hV2 := HV.out.more hbel
    have k2 := hV2.c1
    by_cases hlt : q < N
    · have HLA : Hid _ := rlast_any (q : Int) n wr hV2 hL
      have HK : Hid (rknownL n A (q + 1) = rknownL n A q ++ [((lastD q n A).d, (lastD q n A).u)]) := rknownL_succ n A q
      generalize lastD q n A = e0 at *
      have HB : Hid _ := hbel
      obtain ⟨ao, cap, hu, hcap⟩ := own_slice hrow
      subst hu
      have HRW : Hid (World.ownsRow wr w.heap.size 36 2 (.slice ao q cap) q (flatR (rknownL n A q))) := hrow
      clear hbel hV2 hrow
      have hf4 := fld4 e0
      unfold viewV at HLA hf4
      go_wp2_with fail
      refine Calls.mono HLA.out ?_
      rintro e w1 ⟨rfl, hb1⟩
      have HB1 : Hid (Below w.heap.size w w1) := HB.out.trans (hb1.mono HB.out.size)
      have hr1 : World.ownsRow w1 w.heap.size 36 2 (.slice ao q cap) q (flatR (rknownL n A q)) := ownsRow_same HRW.out (fun g hg => hb1.block g (ownsRow_lt HRW.out hg).2)
      obtain ⟨v7, w8, hrun, ho, hg⟩ := app_one 70 36 (.agg #[.int .i64 0, .int .i64 0]) 2 16 Tryd.underlying70 info44 rfl (by decide) (by decide) hr1 #[.int .i64 e0.d, .int .i64 e0.u] rfl (fun u hu => by simp at hu; rcases hu with rfl | rfl <;> rfl) (by omega) HB1.out.size
      have HO : Hid (World.ownsRow w8 w.heap.size 36 2 v7 (q + 1) (flatR (rknownL n A (q + 1)))) := show World.ownsRow w8 w.heap.size 36 2 v7 (q + 1) (flatR (rknownL n A (q + 1))) from by rw [HK.out, show ∀ a b, flatR (a ++ [b]) = flatR a ++ flatR [b] from fun a b => by simp [flatR]]; exact ho
      have HB8 : Hid (Below w.heap.size w w8) := HB1.out.trans (hg.below (fun j hj => (ownsRow_lt hr1 hj).1) HB1.out.size)
      have HR7 : Hid _ := hrun
      clear hb1 HLA hr1 ho hg hrun HK
      go_wp2_with (at_builtin; refine wpList_runs rfl _ _ 70 rfl rfl rfl HR7.out ?_)
      go_roundw
      case rel => exact ⟨q + 1, _, rfl, by omega, by go_num, HO.out, HB8.out⟩
      case measure => simp [intOf]; omega
    · obtain rfl : q = N := by omega
      have HB : Hid _ := hbel
      have HRW : Hid (World.ownsRow wr w.heap.size 36 2 u q (flatR (rknownL n A q))) := hrow
      clear hbel hV2 hrow
      go_wp2_with fail
      go_ret
      exact ⟨_, rfl, HRW.out, HB.out⟩
end Go.Proofs.YtjmbhaoehfdpoaaDoor
namespace Go.Proofs.YtjmbhaoehfdpoaaDoor
open Go.RowKit Go.PlainAid Go.MapKept
set_option linter.unusedVariables false
set_option linter.unusedSimpArgs false
theorem setCell_chg (w : World) (g j : Nat) (v : Value) : Chg (fun k => k = g) w (w.setCell ⟨g, j, none⟩ v) := ⟨rfl, rfl, rfl, by simp [World.setCell], fun k _ hn => Below.heap_setCell _ _ _ _ hn⟩
theorem blk_alloc {w : World} {b : Nat} {C : Array Value} {T : TypeId} (h : Blk w b C T) (o : Obj) : Blk (w.alloc o) b C T := (Below.heap_alloc _ _ _ h.lt).trans h
theorem RVw.push {L rb : Nat} {me n : Int} {v : Value} {A : List Ent} {Y : World} (h : RVw L rb me n v A Y) (hA : A.length ≤ 200000) (e : Ent) :
    ∃ ao5 cap5 w5, (∀ ty, (Builtin.append_ #[95, 95] ty #[v, .slice (some ⟨Y.heap.size, 0, none⟩) 1 1]).run Tryd.prog (Y.alloc (.cells #[.int .i64 e.r, .string ⟨e.n.toArray⟩, .int .i64 e.c, .int .i64 e.rc, .int .i64 e.v, .int .i64 e.d, .int .i64 e.u, .int .i64 e.h] 130)) = .ok (.slice ao5 (A.length + 1) cap5) w5) ∧
      Chg (fun k => v.ownBlock = some k) Y w5 ∧ w5.cell? ⟨rb, 2, none⟩ = some v ∧ w5.frozen? ⟨rb, 2, none⟩ = false ∧
      RVw L rb me n (.slice ao5 (A.length + 1) cap5) (A ++ [e]) (w5.setCell ⟨rb, 2, none⟩ (.slice ao5 (A.length + 1) cap5)) ∧
      Chg (fun k => k = rb ∨ v.ownBlock = some k) Y (w5.setCell ⟨rb, 2, none⟩ (.slice ao5 (A.length + 1) cap5)) ∧
      ∀ g, (Value.slice ao5 (A.length + 1) cap5).ownBlock = some g → v.ownBlock = some g ∨ Y.heap.size ≤ g := by
  have hLY : L ≤ Y.heap.size := Nat.le_trans h.lo (Nat.le_of_lt h.blk.lt)
  obtain ⟨v', w5, h1, h2, h3⟩ := app_one 95 130 (.agg #[.int .i64 0, .string ⟨#[]⟩, .int .i64 0, .int .i64 0, .int .i64 0, .int .i64 0, .int .i64 0, .int .i64 0]) 8 72 Tryd.underlying95 info133 rfl (by decide) (by decide) h.row #[.int .i64 e.r, .string ⟨e.n.toArray⟩, .int .i64 e.c, .int .i64 e.rc, .int .i64 e.v, .int .i64 e.d, .int .i64 e.u, .int .i64 e.h] rfl (fun u hu => by simp at hu; rcases hu with rfl | rfl | rfl | rfl | rfl | rfl | rfl | rfl <;> rfl) (by omega) hLY
  obtain ⟨ao5, cap5, hv, hc⟩ := own_slice h2
  subst hv
  have hnb : ∀ u k, (w5.ownsRow L 130 8 u k (flatE A ++ e.rw) ∨ Y.ownsRow L 130 8 u k (flatE A)) → (∃ W, (W = w5 ∨ W = Y) ∧ True) → True := fun _ _ _ _ => trivial
  have n1 : ¬ v.ownBlock = some rb := fun hh => by
    obtain ⟨cu, hcu⟩ := ownsRow_type h.row hh
    exact Blk.ne_t h.blk (show Blk Y rb cu 130 from hcu) (by decide) rfl
  have hB5 : Blk w5 rb #[.int .i64 me, .int .i64 n, v] 97 := h3.chg.blk h.blk n1
  have n2 : ¬ (Value.slice ao5 (A.length + 1) cap5).ownBlock = some rb := fun hh => by
    obtain ⟨cu, hcu⟩ := ownsRow_type h2 hh
    exact Blk.ne_t hB5 (show Blk w5 rb cu 130 from hcu) (by decide) rfl
  have hc2 := setCell_chg w5 rb 2 (.slice ao5 (A.length + 1) cap5)
  refine ⟨ao5, cap5, w5, h1, h3.chg, hB5.cell 2, hB5.frozen 2, ⟨hB5.set 2 _, ?_, h.lo⟩, ?_, h3.at'⟩
  · have h4 : World.ownsRow w5 L 130 8 (.slice ao5 (A.length + 1) cap5) (A ++ [e]).length (flatE (A ++ [e])) := by rw [flatE_append, show flatE [e] = e.rw from by simp [flatE], List.length_append]; exact h2
    exact ownsRow_same h4 (fun g hg => Below.heap_setCell _ _ _ _ (fun e => n2 (by rw [e] at hg; exact hg)))
  · exact (h3.chg.mono (fun _ _ h => Or.inr h)).trans hc2 (fun _ _ h => Or.inl h)
theorem cell_below {w w' : World} {b o : Nat} {v : Value} (hb : Below w.heap.size w w') (h : w.cell? ⟨b, o, none⟩ = some v) : w'.cell? ⟨b, o, none⟩ = some v := (World.cell?_of_block (w := w) (hb.block b (World.block_lt_of_cell? w _ h))).trans h

def rtellCode (me : Int) (A : List Ent) (e : Ent) : Int := if e.right = false then 1 else if (lastD me e.n A).v = 0 ∧ 64 ≤ (nmsL me A).length then 102 else 0
def rsame (l e : Ent) : Prop := 0 < l.v ∧ l.c = e.c ∧ l.rc = e.rc ∧ l.d = e.d ∧ l.u = e.u ∧ l.h = e.h
instance (l e : Ent) : Decidable (rsame l e) := by unfold rsame; exact inferInstance
def rtellNext (me : Int) (A : List Ent) (e : Ent) : List Ent := if e.right = false then A else if (lastD me e.n A).v = 0 ∧ 64 ≤ (nmsL me A).length then A else if rsame (lastD me e.n A) e then A else A ++ [{ e with r := me, v := (lastD me e.n A).v + 1 }]
/-- What a call of the document's views leaves. -/
structure RPost (L rb : Nat) (me N : Int) (v : Value) (A' : List Ent) (w w' : World) : Prop where
  out : ∃ v', RVw L rb me N v' A' w' ∧ (∀ g, v'.ownBlock = some g → v.ownBlock = some g ∨ w.heap.size ≤ g)
  chg : Chg (fun k => k = rb ∨ v.ownBlock = some k) w w'
theorem RPost.stay {L rb : Nat} {me N : Int} {v : Value} {A : List Ent} {w w' : World} (h : RVw L rb me N v A w) (hb : Below w.heap.size w w') : RPost L rb me N v A w w' := ⟨⟨v, h.more hb, fun g hg => Or.inl hg⟩, Chg.ofBelow _ hb⟩
set_option maxRecDepth 100000 in
set_option maxHeartbeats 6400000 in
theorem rtell_any {L rb : Nat} {me N : Int} {v : Value} {A : List Ent} (n : List UInt8) (c rc d u h : Int) (w : World) (hV : RVw L rb me N v A w) (hA : A.length ≤ 100000) (hs : (Ent.mk me n c rc 1 d u h).sane) (hv : 0 ≤ (lastD me n A).v ∧ (lastD me n A).v ≤ 1000000) :
    Calls Tryd.prog 54 #[.pointer (some ⟨rb, 0, none⟩), .string ⟨n.toArray⟩, .int .i64 c, .int .i64 rc, .agg #[.int .i64 d, .int .i64 u], .int .i64 h] w fun q w' => q = .returned (.int .i64 (rtellCode me A ⟨me, n, c, rc, 1, d, u, h⟩)) ∧ RPost L rb me N v (rtellNext me A ⟨me, n, c, rc, 1, d, u, h⟩) w w' := by
  obtain ⟨ao, cap, hvv, _⟩ := own_slice hV.row
  subst hvv
  have HV : Hid (RVw L rb me N (.slice ao A.length cap) A w) := hV
  have HAL : Hid (A.length ≤ 200000) := show A.length ≤ 200000 from by omega
  have HRR : Hid (∀ W, Calls Tryd.prog 67 #[viewV ⟨me, n, c, rc, 1, d, u, h⟩] W fun r w' => r = .returned (.bool (Ent.right ⟨me, n, c, rc, 1, d, u, h⟩)) ∧ Below W.heap.size W w') := fun W => rright_any ⟨me, n, c, rc, 1, d, u, h⟩ W hs
  unfold viewV at HRR
  simp only at HRR
  have HC0 : Hid (rtellCode me A ⟨me, n, c, rc, 1, d, u, h⟩ = if Ent.right ⟨me, n, c, rc, 1, d, u, h⟩ = false then 1 else if (lastD me n A).v = 0 ∧ 64 ≤ (nmsL me A).length then 102 else 0) := rfl
  have HN0 : Hid (rtellNext me A ⟨me, n, c, rc, 1, d, u, h⟩ = if Ent.right ⟨me, n, c, rc, 1, d, u, h⟩ = false then A else if (lastD me n A).v = 0 ∧ 64 ≤ (nmsL me A).length then A else if rsame (lastD me n A) ⟨me, n, c, rc, 1, d, u, h⟩ then A else A ++ [⟨me, n, c, rc, (lastD me n A).v + 1, d, u, h⟩]) := rfl
  generalize rtellCode me A ⟨me, n, c, rc, 1, d, u, h⟩ = CD at *
  generalize rtellNext me A ⟨me, n, c, rc, 1, d, u, h⟩ = NX at *
  obtain ⟨rx, hrx⟩ : ∃ rx, rx = w.heap.size := ⟨_, rfl⟩
  obtain ⟨X, hX⟩ : ∃ X, X = (w.alloc (.cells #[.int .i64 d, .int .i64 u] 36)).alloc (.cells #[.string ⟨n.toArray⟩, .int .i64 c, .int .i64 rc, .int .i64 1, .int .i64 d, .int .i64 u, .int .i64 h] 86) := ⟨_, rfl⟩
  have hRX : Blk X rx #[.int .i64 d, .int .i64 u] 36 := by rw [hX, hrx]; exact (Below.heap_alloc _ _ _ (by simp)).trans (heap_alloc_new w _)
  have hXX : Blk X (rx + 1) #[.string ⟨n.toArray⟩, .int .i64 c, .int .i64 rc, .int .i64 1, .int .i64 d, .int .i64 u, .int .i64 h] 86 := by rw [hX, hrx]; have := heap_alloc_new (w.alloc (.cells #[.int .i64 d, .int .i64 u] 36)) (.cells #[.string ⟨n.toArray⟩, .int .i64 c, .int .i64 rc, .int .i64 1, .int .i64 d, .int .i64 u, .int .i64 h] 86); rwa [World.size_alloc] at this
  have HBX : Hid (Below w.heap.size w X) := show Below w.heap.size w X from by rw [hX]; exact ((Below.refl _ _).alloc (Nat.le_refl _) _).alloc (by simp) _
  obtain ⟨xb, hxb⟩ : ∃ xb, xb = rx + 1 := ⟨_, rfl⟩
  rw [← hxb] at hXX
  have HXB : Hid (w.heap.size ≤ xb) := show w.heap.size ≤ xb from by omega
  have HRX : Hid (Blk X rx #[.int .i64 d, .int .i64 u] 36) := hRX
  have HXX : Hid (Blk X xb #[.string ⟨n.toArray⟩, .int .i64 c, .int .i64 rc, .int .i64 1, .int .i64 d, .int .i64 u, .int .i64 h] 86) := hXX
  have x0 : X.cell? ⟨xb, 0, none⟩ = some (.string ⟨n.toArray⟩) := hXX.cell 0
  have x1 : X.cell? ⟨xb, 1, none⟩ = some (.int .i64 c) := hXX.cell 1
  have x2 : X.cell? ⟨xb, 2, none⟩ = some (.int .i64 rc) := hXX.cell 2
  have x3 : X.cell? ⟨xb, 3, none⟩ = some (.int .i64 1) := hXX.cell 3
  have x4 : X.cell? ⟨xb, 4, none⟩ = some (.int .i64 d) := hXX.cell 4
  have x5 : X.cell? ⟨xb, 5, none⟩ = some (.int .i64 u) := hXX.cell 5
  have x6 : X.cell? ⟨xb, 6, none⟩ = some (.int .i64 h) := hXX.cell 6
  clear hV hXX hRX hs
  go_enter Tryd.func54, Tryd.ntmps54
  go_upto_region 2 with fail
  rw [← hX, ← hrx, ← hxb]
  clear hX hrx hxb
  go_wp2_with fail
  refine Calls.mono (HRR.out X) ?_
  rintro e w1 ⟨rfl, hb1⟩
  have HB1 : Hid (Below w.heap.size w w1) := HBX.out.trans (hb1.mono HBX.out.size)
  have HR1 : Hid (Blk w1 rx #[.int .i64 d, .int .i64 u] 36) := HRX.out.below hb1 HRX.out.lt
  have HX1 : Hid (Blk w1 xb #[.string ⟨n.toArray⟩, .int .i64 c, .int .i64 rc, .int .i64 1, .int .i64 d, .int .i64 u, .int .i64 h] 86) := HXX.out.below hb1 HXX.out.lt
  generalize Ent.right ⟨me, n, c, rc, 1, d, u, h⟩ = R at *
  clear hb1 HRX HXX HBX HRR x0 x1 x2 x3 x4 x5 x6
  cases R with
  | false =>
    have HCD : Hid (CD = 1) := show _ = _ from by rw [HC0.out, if_pos rfl]
    have HNX2 : Hid (NX = A) := show _ = _ from by rw [HN0.out, if_pos rfl]
    clear HC0 HN0
    go_wp2_with fail
    go_ret
    exact ⟨by rw [HCD.out]; rfl, by rw [HNX2.out]; exact RPost.stay HV.out HB1.out⟩
  | true =>
    have hV1 := HV.out.more HB1.out
    have m0 : w1.cell? ⟨rb, 0, none⟩ = some (.int .i64 me) := hV1.c0
    have HLA : Hid _ := rlast_any me n w1 hV1 hA
    generalize lastD me n A = l at *
    unfold viewV at HLA
    clear hV1
    go_wp2_with fail
    refine Calls.mono HLA.out ?_
    rintro e w2 ⟨rfl, hb2⟩
    obtain ⟨zb, hzb⟩ : ∃ zb, zb = w2.heap.size := ⟨_, rfl⟩
    obtain ⟨Z, hZ⟩ : ∃ Z, Z = w2.alloc (.cells #[.string ⟨l.n.toArray⟩, .int .i64 l.c, .int .i64 l.rc, .int .i64 l.v, .int .i64 l.d, .int .i64 l.u, .int .i64 l.h] 86) := ⟨_, rfl⟩
    have hgz : Below w2.heap.size w2 Z := by rw [hZ]; exact (Below.refl _ _).alloc (Nat.le_refl _) _
    have hb3 : Below w1.heap.size w1 Z := hb2.trans (hgz.mono hb2.size)
    have HBZ : Hid (Below w.heap.size w Z) := HB1.out.trans (hb3.mono HB1.out.size)
    have HVZ : Hid (RVw L rb me N (.slice ao A.length cap) A Z) := HV.out.more HBZ.out
    have hRZ : Blk Z rx #[.int .i64 d, .int .i64 u] 36 := HR1.out.below hb3 HR1.out.lt
    have HXZ : Hid (Blk Z xb #[.string ⟨n.toArray⟩, .int .i64 c, .int .i64 rc, .int .i64 1, .int .i64 d, .int .i64 u, .int .i64 h] 86) := HX1.out.below hb3 HX1.out.lt
    have hZZ : Blk Z zb #[.string ⟨l.n.toArray⟩, .int .i64 l.c, .int .i64 l.rc, .int .i64 l.v, .int .i64 l.d, .int .i64 l.u, .int .i64 l.h] 86 := by rw [hZ, hzb]; exact heap_alloc_new w2 _
    have HNX : Hid (¬ rb = xb ∧ ∀ g, (Value.slice ao A.length cap).ownBlock = some g → ¬ g = xb) := ⟨fun e => by have := HV.out.blk.lt; have := HXB.out; omega, fun g hg e => by have := (ownsRow_lt HV.out.row hg).2; have := HXB.out; omega⟩
    have r0 : Z.cell? ⟨rx, 0, none⟩ = some (.int .i64 d) := hRZ.cell 0
    have r1 : Z.cell? ⟨rx, 1, none⟩ = some (.int .i64 u) := hRZ.cell 1
    have z1 : Z.cell? ⟨zb, 1, none⟩ = some (.int .i64 l.c) := hZZ.cell 1
    have z2 : Z.cell? ⟨zb, 2, none⟩ = some (.int .i64 l.rc) := hZZ.cell 2
    have z3 : Z.cell? ⟨zb, 3, none⟩ = some (.int .i64 l.v) := hZZ.cell 3
    have z4 : Z.cell? ⟨zb, 4, none⟩ = some (.int .i64 l.d) := hZZ.cell 4
    have z5 : Z.cell? ⟨zb, 5, none⟩ = some (.int .i64 l.u) := hZZ.cell 5
    have z6 : Z.cell? ⟨zb, 6, none⟩ = some (.int .i64 l.h) := hZZ.cell 6
    have m2 : Z.cell? ⟨rb, 0, none⟩ = some (.int .i64 me) := HVZ.out.c0
    have c3 : Z.cell? ⟨xb, 3, none⟩ = some (.int .i64 1) := HXZ.out.cell 3
    have HR9 : Hid (Blk Z rx #[.int .i64 d, .int .i64 u] 36) := hRZ
    have HZ9 : Hid (Blk Z zb #[.string ⟨l.n.toArray⟩, .int .i64 l.c, .int .i64 l.rc, .int .i64 l.v, .int .i64 l.d, .int .i64 l.u, .int .i64 l.h] 86) := hZZ
    go_upto_region 6 with fail
    rw [← hZ, ← hzb]
    clear hZ hzb hgz hb3 hb2 hRZ hZZ HLA HR1 HX1 HB1 m0
    have hw9 : IntKind.i64.wrap (l.v + 1) = l.v + 1 := by rw [IntKind.wrap_i64]; omega
    by_cases hl0 : l.v = 0
    · obtain ⟨Z0, hZ0⟩ : ∃ Z0 : World, Z0 = Z := ⟨_, rfl⟩
      have HNM : Hid _ := names_any' me Z HVZ.out hA
      have hl0b : (l.v == 0) = true := by simpa using hl0
      go_wp2_with fail
      refine Calls.mono HNM.out ?_
      rintro e w3 ⟨nv, rfl, hnr, hb4⟩
      obtain ⟨na, nc, hnv, hq9⟩ := own_slice hnr
      subst hnv
      have HXZ' : Hid (Blk w3 xb #[.string ⟨n.toArray⟩, .int .i64 c, .int .i64 rc, .int .i64 1, .int .i64 d, .int .i64 u, .int .i64 h] 86) := HXZ.out.below hb4 HXZ.out.lt
      have HBZ' : Hid (Below w.heap.size w w3) := HBZ.out.trans (hb4.mono HBZ.out.size)
      have HVZ' : Hid (RVw L rb me N (.slice ao A.length cap) A w3) := HV.out.more HBZ'.out
      have hZ3 : Blk w3 zb #[.string ⟨l.n.toArray⟩, .int .i64 l.c, .int .i64 l.rc, .int .i64 l.v, .int .i64 l.d, .int .i64 l.u, .int .i64 l.h] 86 := HZ9.out.below hb4 HZ9.out.lt
      have a1 : w3.cell? ⟨zb, 1, none⟩ = some (.int .i64 l.c) := hZ3.cell 1
      have a3 : w3.cell? ⟨zb, 3, none⟩ = some (.int .i64 l.v) := hZ3.cell 3
      have a9 : w3.cell? ⟨xb, 3, none⟩ = some (.int .i64 1) := HXZ'.out.cell 3
      have hnl9 : (nmsL me A).length ≤ 100000 := Nat.le_trans (nmsL_len _ _) hA
      clear hq9 hnr hb4 HNM hZ3 HXZ HBZ HVZ HR9 HZ9 r0 r1 z1 z2 z3 z4 z5 z6 m2 c3 hZ0 Z0
      generalize (nmsL me A).length = nn at *
      by_cases hfull : 64 ≤ nn
      · have HCD : Hid (CD = 102) := show _ = _ from by rw [HC0.out, if_neg (by simp), if_pos ⟨hl0, hfull⟩]
        have HNX2 : Hid (NX = A) := show _ = _ from by rw [HN0.out, if_neg (by simp), if_pos ⟨hl0, hfull⟩]
        clear HC0 HN0
        go_wp2_with fail
        go_ret
        exact ⟨by rw [HCD.out]; rfl, by rw [HNX2.out]; exact RPost.stay HV.out HBZ'.out⟩
      · have HCD : Hid (CD = 0) := show _ = _ from by rw [HC0.out, if_neg (by simp), if_neg (fun h => hfull h.2)]
        have HNX2 : Hid (NX = A ++ [⟨me, n, c, rc, l.v + 1, d, u, h⟩]) := show _ = _ from by rw [HN0.out, if_neg (by simp), if_neg (fun h => hfull h.2), if_neg (fun h => by have := h.1; omega)]
        have hl1 : ¬ 0 < l.v := by omega
        clear HC0 HN0 hl0
        have fz : w3.frozen? ⟨xb, 3, none⟩ = false := HXZ'.out.frozen 3
        obtain ⟨e2, he2⟩ : ∃ e2 : Ent, e2 = ⟨me, n, c, rc, l.v + 1, d, u, h⟩ := ⟨_, rfl⟩
        obtain ⟨Y, hY⟩ : ∃ Y, Y = w3.setCell ⟨xb, 3, none⟩ (.int .i64 (l.v + 1)) := ⟨_, rfl⟩
        have hYc : Chg (fun k => k = xb) w3 Y := by rw [hY]; exact setCell_chg _ _ _ _
        have hYB : Blk Y xb #[.string ⟨n.toArray⟩, .int .i64 c, .int .i64 rc, .int .i64 (l.v + 1), .int .i64 d, .int .i64 u, .int .i64 h] 86 := by rw [hY]; exact HXZ'.out.set 3 _
        have HVX : Hid (VAt Y xb 0 e2) := show VAt Y xb 0 e2 from by rw [he2]; exact ⟨hYB.cell 0, hYB.cell 1, hYB.cell 2, hYB.cell 3, hYB.cell 4, hYB.cell 5, hYB.cell 6⟩
        have HVY : Hid (RVw L rb me N (.slice ao A.length cap) A Y) := show RVw L rb me N (.slice ao A.length cap) A Y from HVZ'.out.keep (hYc.block _ HVZ'.out.blk.lt HNX.out.1) (fun g hg => hYc.block _ (ownsRow_lt HVZ'.out.row hg).2 (HNX.out.2 g hg))
        have y0 : Y.cell? ⟨rb, 0, none⟩ = some (.int .i64 e2.r) := by rw [he2]; exact HVY.out.c0
        have y2 : Y.cell? ⟨rb, 2, none⟩ = some (.slice ao A.length cap) := HVY.out.c2
        have HCW : Hid (Chg (fun _ => False) w Y) := show Chg (fun _ => False) w Y from ⟨(hYc.os).trans HBZ'.out.os, (hYc.tape).trans HBZ'.out.tape, (hYc.output).trans HBZ'.out.output, Nat.le_trans HBZ'.out.size hYc.size, fun k hk _ => (hYc.block k (Nat.lt_of_lt_of_le hk HBZ'.out.size) (fun e => by have := HXB.out; omega)).trans (HBZ'.out.block k hk)⟩
        have HCK : Hid (∀ wa wb : World, Below wa.heap.size wa wb → (fun wq => wq.cell? ⟨rb, 2, none⟩ = some (.slice ao A.length cap) ∧ wq.cell? ⟨rb, 0, none⟩ = some (.int .i64 e2.r) ∧ VAt wq xb 0 e2) wa → (fun wq => wq.cell? ⟨rb, 2, none⟩ = some (.slice ao A.length cap) ∧ wq.cell? ⟨rb, 0, none⟩ = some (.int .i64 e2.r) ∧ VAt wq xb 0 e2) wb) := fun wa wb hb hh => ⟨cell_below hb hh.1, cell_below hb hh.2.1, hh.2.2.keep (hb.block _ hh.2.2.lt)⟩
        have HE2 : Hid (e2 = ⟨me, n, c, rc, l.v + 1, d, u, h⟩) := he2
        have HSW : Hid (w.heap.size ≤ Y.heap.size) := HCW.out.size
        have HWL : Hid (∀ g, (Value.slice ao A.length cap).ownBlock = some g → g < w.heap.size) := fun g hg => (ownsRow_lt HV.out.row hg).2
        go_upto_region 11 with fail
        rw [← hY]
        clear hY hYB he2 hYc fz
        go_wp2_with fail
        rename_i K hK hz8
        try rw [show ∀ a : Act, a.put none undef = a from fun _ => rfl]
        refine wp_region_mix (fun wq => wq.cell? ⟨rb, 2, none⟩ = some (.slice ao A.length cap) ∧ wq.cell? ⟨rb, 0, none⟩ = some (.int .i64 e2.r) ∧ VAt wq xb 0 e2) (fun i => i == 11 || i == 12 || i == 15) 15 (by kernel_rfl) rfl (by kernel_rfl) (by kernel_rfl) (by kernel_rfl) ?_
        refine withFrP (N := 92) rfl ?_
        intro f0 F0 hff
        have e0 : f0 0 = Value.pointer (some ⟨rb, 0, none⟩) := hff 0
        have e13 : f0 13 = Value.pointer (some ⟨xb, 0, none⟩) := hff 13
        clear hff
        have HCC : (fun wq => wq.cell? ⟨rb, 2, none⟩ = some (.slice ao A.length cap) ∧ wq.cell? ⟨rb, 0, none⟩ = some (.int .i64 e2.r) ∧ VAt wq xb 0 e2) (({ Y with drawn := Y.drawn + 1 } : World)) := ⟨y2, y0, HVX.out.keep rfl⟩
        have HC1 : (fun wq => wq.cell? ⟨rb, 2, none⟩ = some (.slice ao A.length cap) ∧ wq.cell? ⟨rb, 0, none⟩ = some (.int .i64 e2.r) ∧ VAt wq xb 0 e2) ((({ Y with drawn := Y.drawn + 1 } : World)).alloc (.cells #[.int .i64 e2.r, .string ⟨e2.n.toArray⟩, .int .i64 e2.c, .int .i64 e2.rc, .int .i64 e2.v, .int .i64 e2.d, .int .i64 e2.u, .int .i64 e2.h] 130)) := HCK.out _ _ ((Below.refl _ _).alloc (Nat.le_refl _) _) HCC
        refine lyp F0 rfl HCC rfl (by omega) (wanted_none rfl) (v := Value.pointer (some ⟨rb, 0, none⟩)) (fun wr hwr => by simp only [execOp, (F0.eval 0 (by omega)).trans (show _ = Value.pointer (some ⟨rb, 0, none⟩) from by simp [upd, e0, e13])]; first | rfl | simp [go_sem]) fun F1 => ?_
        refine lyp F1 rfl HCC rfl (by omega) (wanted_none rfl) (v := Value.pointer (some ⟨rb, 0, none⟩)) (fun wr hwr => by simp only [execOp, (F1.eval 0 (by omega)).trans (show _ = Value.pointer (some ⟨rb, 0, none⟩) from by simp [upd, e0, e13])]; first | rfl | simp [go_sem]) fun F2 => ?_
        refine lyp F2 rfl HCC rfl (by omega) (wanted_none rfl) (v := Value.pointer (some ⟨rb, 0, none⟩)) (fun wr hwr => by simp only [execOp, (F2.eval 78 (by omega)).trans (show _ = Value.pointer (some ⟨rb, 0, none⟩) from by simp [upd, e0, e13])]; simp [go_sem]) fun F3 => ?_
        refine lyp F3 rfl HCC rfl (by omega) (wanted_none rfl) (v := Value.pointer (some ⟨rb, 2, none⟩)) (fun wr hwr => by simp only [execOp, (F3.eval 79 (by omega)).trans (show _ = Value.pointer (some ⟨rb, 0, none⟩) from by simp [upd, e0, e13])]; simp [go_sem]) fun F4 => ?_
        refine lyp F4 rfl HCC rfl (by omega) (wanted_none rfl) (v := Value.slice ao A.length cap) (fun wr hwr => by simp only [execOp, (F4.eval 80 (by omega)).trans (show _ = Value.pointer (some ⟨rb, 2, none⟩) from by simp [upd, e0, e13])]; simp [go_sem, hwr.1]) fun F5 => ?_
        refine lyp F5 rfl HCC rfl (by omega) (wanted_none rfl) (v := Value.pointer (some ⟨rb, 0, none⟩)) (fun wr hwr => by simp only [execOp, (F5.eval 0 (by omega)).trans (show _ = Value.pointer (some ⟨rb, 0, none⟩) from by simp [upd, e0, e13])]; first | rfl | simp [go_sem]) fun F6 => ?_
        refine lyp F6 rfl HCC rfl (by omega) (wanted_none rfl) (v := Value.pointer (some ⟨rb, 0, none⟩)) (fun wr hwr => by simp only [execOp, (F6.eval 82 (by omega)).trans (show _ = Value.pointer (some ⟨rb, 0, none⟩) from by simp [upd, e0, e13])]; simp [go_sem]) fun F7 => ?_
        refine lyp F7 rfl HCC rfl (by omega) (wanted_none rfl) (v := Value.pointer (some ⟨rb, 0, none⟩)) (fun wr hwr => by simp only [execOp, (F7.eval 83 (by omega)).trans (show _ = Value.pointer (some ⟨rb, 0, none⟩) from by simp [upd, e0, e13])]; simp [go_sem]) fun F8 => ?_
        refine lyp F8 rfl HCC rfl (by omega) (wanted_none rfl) (v := Value.int .i64 e2.r) (fun wr hwr => by simp only [execOp, (F8.eval 84 (by omega)).trans (show _ = Value.pointer (some ⟨rb, 0, none⟩) from by simp [upd, e0, e13])]; simp [go_sem, hwr.2.1]) fun F9 => ?_
        refine lyp F9 rfl HCC rfl (by omega) (wanted_none rfl) (v := Value.agg #[.string ⟨e2.n.toArray⟩, .int .i64 e2.c, .int .i64 e2.rc, .int .i64 e2.v, .int .i64 e2.d, .int .i64 e2.u, .int .i64 e2.h]) (fun wr hwr => by simp only [execOp, (F9.eval 13 (by omega)).trans (show _ = Value.pointer (some ⟨xb, 0, none⟩) from by simp [upd, e0, e13])]; simp [go_sem, hwr.2.2.c0, hwr.2.2.c1, hwr.2.2.c2, hwr.2.2.c3, hwr.2.2.c4, hwr.2.2.c5, hwr.2.2.c6]) fun F10 => ?_
        refine lyp F10 rfl HCC rfl (by omega) (wanted_none rfl) (v := Value.agg #[.int .i64 e2.r, .string ⟨e2.n.toArray⟩, .int .i64 e2.c, .int .i64 e2.rc, .int .i64 e2.v, .int .i64 e2.d, .int .i64 e2.u, .int .i64 e2.h]) (fun wr hwr => by simp only [execOp, List.map_toArray, List.map_cons, List.map_nil, (F10.eval 85 (by omega)).trans (show _ = Value.int .i64 e2.r from by simp [upd, e0, e13]), (F10.eval 86 (by omega)).trans (show _ = Value.agg #[.string ⟨e2.n.toArray⟩, .int .i64 e2.c, .int .i64 e2.rc, .int .i64 e2.v, .int .i64 e2.d, .int .i64 e2.u, .int .i64 e2.h] from by simp [upd, e0, e13])]; simp [go_sem]; try rfl) fun F11 => ?_
        refine lep F11 rfl HCC rfl (by omega) (wanted_none rfl) (v := Value.slice (some ⟨Y.heap.size, 0, none⟩) 1 1) (w1 := (({ Y with drawn := Y.drawn + 1 } : World)).alloc (.cells #[.int .i64 e2.r, .string ⟨e2.n.toArray⟩, .int .i64 e2.c, .int .i64 e2.rc, .int .i64 e2.v, .int .i64 e2.d, .int .i64 e2.u, .int .i64 e2.h] 130)) (by simp only [execOp, List.map_toArray, List.map_cons, List.map_nil, (F11.eval 87 (by omega)).trans (show _ = Value.agg #[.int .i64 e2.r, .string ⟨e2.n.toArray⟩, .int .i64 e2.c, .int .i64 e2.rc, .int .i64 e2.v, .int .i64 e2.d, .int .i64 e2.u, .int .i64 e2.h] from by simp [upd, e0, e13])]; simp [go_sem]) fun F12 => ?_
        obtain ⟨ao5, cap5, w5, hrun, hc5, hz5, hf5, hV5, hch5, hat5⟩ := (show RVw L rb me N (.slice ao A.length cap) A (({ Y with drawn := Y.drawn + 1 } : World)) from HVY.out.keep rfl (fun _ _ => rfl)).push HAL.out e2
        have HC5 : (fun wq => wq.cell? ⟨rb, 2, none⟩ = some (.slice ao A.length cap) ∧ wq.cell? ⟨rb, 0, none⟩ = some (.int .i64 e2.r) ∧ VAt wq xb 0 e2) w5 := ⟨hz5, (by have hB := (show RVw L rb me N (.slice ao A.length cap) A ({ Y with drawn := Y.drawn + 1 } : World) from HVY.out.keep rfl (fun _ _ => rfl)).blk; exact (hc5.blk hB (fun hh => by obtain ⟨cu, hcu⟩ := ownsRow_type HVY.out.row hh; exact Blk.ne_t HVY.out.blk (show Blk Y rb cu 130 from hcu) (by decide) rfl)).cell 0 |>.trans (HVY.out.blk.cell 0).symm |>.trans y0), HVX.out.keep (hc5.block xb HVX.out.lt (fun hh => HNX.out.2 _ hh rfl))⟩
        refine lep F12 rfl HC1 rfl (by omega) (wanted_none rfl) (v := Value.slice ao5 (A.length + 1) cap5) (w1 := w5) (by simp only [execOp, resolve, invoke, builtin, List.map_toArray, List.map_cons, List.map_nil, (F12.eval 81 (by omega)).trans (show _ = Value.slice ao A.length cap from by simp [upd, e0, e13]), (F12.eval 88 (by omega)).trans (show _ = Value.slice (some ⟨Y.heap.size, 0, none⟩) 1 1 from by simp [upd, e0, e13])]; simp only [Sem.run_bind, Sem.run_pure, Result.andThen_ok, show _ = _ from hrun _]; try rfl) fun F13 => ?_
        refine lyp F13 rfl HC5 rfl (by omega) (wanted_none rfl) (v := Value.pointer (some ⟨rb, 0, none⟩)) (fun wr hwr => by simp only [execOp, (F13.eval 77 (by omega)).trans (show _ = Value.pointer (some ⟨rb, 0, none⟩) from by simp [upd, e0, e13])]; simp [go_sem]) fun F14 => ?_
        refine lyp F14 rfl HC5 rfl (by omega) (wanted_none rfl) (v := Value.pointer (some ⟨rb, 2, none⟩)) (fun wr hwr => by simp only [execOp, (F14.eval 90 (by omega)).trans (show _ = Value.pointer (some ⟨rb, 0, none⟩) from by simp [upd, e0, e13])]; simp [go_sem]) fun F15 => ?_
        refine lst rfl HC5 rfl (wanted_none rfl) (w1 := w5.setCell ⟨rb, 2, none⟩ (.slice ao5 (A.length + 1) cap5)) (by simp only [execOp, (F15.eval 91 (by omega)).trans (show _ = Value.pointer (some ⟨rb, 2, none⟩) from by simp [upd, e0, e13]), (F15.eval 89 (by omega)).trans (show _ = Value.slice ao5 (A.length + 1) cap5 from by simp [upd, e0, e13])]; simp [go_sem, hf5, hz5]) ?_
        refine ⟨fun h => by omega, ?_⟩
        refine hK _ _ ?_
        clear F0 F1 F2 F3 F4 F5 F6 F7 F8 F9 F10 F11 F12 F13 F14 F15 e0 e13 HCC HC1 HC5 hz5 hf5 hrun hc5
        simp only [Act.put, List.setIfInBounds_toArray, List.set_cons_succ, List.set_cons_zero]
        go_wp2_with fail
        go_ret
        refine ⟨by rw [HCD.out]; rfl, ?_⟩
        rw [HNX2.out, ← HE2.out]
        refine ⟨⟨_, hV5, fun g hg => (hat5 g hg).imp id (fun hh => Nat.le_trans HSW.out hh)⟩, ?_⟩
        exact (HCW.out.mono (fun _ _ hh => hh.elim)).trans (show Chg (fun k => k = rb ∨ (Value.slice ao A.length cap).ownBlock = some k) Y _ from ⟨hch5.os, hch5.tape, hch5.output, hch5.size, hch5.block⟩) (fun j hj hh => hh)
    · have hlp : 0 < l.v := by omega
      have hl0b : (l.v == 0) = false := by simpa using hl0
      have HCD : Hid (CD = 0) := show _ = _ from by rw [HC0.out, if_neg (by simp), if_neg (fun h => hl0 h.1)]
      by_cases q0 : l.c = c
      · skip
        by_cases q1 : l.rc = rc
        · skip
          by_cases q2 : l.d = d
          · skip
            by_cases q3 : l.u = u
            · skip
              by_cases q4 : l.h = h
              · skip
                have HNX2 : Hid (NX = A) := show _ = _ from by rw [HN0.out, if_neg (by simp), if_neg (fun h => hl0 h.1), if_pos ⟨hlp, q0, q1, q2, q3, q4⟩]
                clear HC0 HN0
                go_wp2_with fail
                go_ret
                exact ⟨by rw [HCD.out]; rfl, by rw [HNX2.out]; exact RPost.stay HV.out HBZ.out⟩
              · have HNX2 : Hid (NX = A ++ [⟨me, n, c, rc, l.v + 1, d, u, h⟩]) := show _ = _ from by rw [HN0.out, if_neg (by simp), if_neg (fun h => hl0 h.1), if_neg (fun h => q4 h.2.2.2.2.2)]
                replace q4 : (l.h == h) = false := by simpa using q4
                clear HC0 HN0
                have fz : Z.frozen? ⟨xb, 3, none⟩ = false := HXZ.out.frozen 3
                obtain ⟨e2, he2⟩ : ∃ e2 : Ent, e2 = ⟨me, n, c, rc, l.v + 1, d, u, h⟩ := ⟨_, rfl⟩
                obtain ⟨Y, hY⟩ : ∃ Y, Y = Z.setCell ⟨xb, 3, none⟩ (.int .i64 (l.v + 1)) := ⟨_, rfl⟩
                have hYc : Chg (fun k => k = xb) Z Y := by rw [hY]; exact setCell_chg _ _ _ _
                have hYB : Blk Y xb #[.string ⟨n.toArray⟩, .int .i64 c, .int .i64 rc, .int .i64 (l.v + 1), .int .i64 d, .int .i64 u, .int .i64 h] 86 := by rw [hY]; exact HXZ.out.set 3 _
                have HVX : Hid (VAt Y xb 0 e2) := show VAt Y xb 0 e2 from by rw [he2]; exact ⟨hYB.cell 0, hYB.cell 1, hYB.cell 2, hYB.cell 3, hYB.cell 4, hYB.cell 5, hYB.cell 6⟩
                have HVY : Hid (RVw L rb me N (.slice ao A.length cap) A Y) := show RVw L rb me N (.slice ao A.length cap) A Y from HVZ.out.keep (hYc.block _ HVZ.out.blk.lt HNX.out.1) (fun g hg => hYc.block _ (ownsRow_lt HVZ.out.row hg).2 (HNX.out.2 g hg))
                have y0 : Y.cell? ⟨rb, 0, none⟩ = some (.int .i64 e2.r) := by rw [he2]; exact HVY.out.c0
                have y2 : Y.cell? ⟨rb, 2, none⟩ = some (.slice ao A.length cap) := HVY.out.c2
                have HCW : Hid (Chg (fun _ => False) w Y) := show Chg (fun _ => False) w Y from ⟨(hYc.os).trans HBZ.out.os, (hYc.tape).trans HBZ.out.tape, (hYc.output).trans HBZ.out.output, Nat.le_trans HBZ.out.size hYc.size, fun k hk _ => (hYc.block k (Nat.lt_of_lt_of_le hk HBZ.out.size) (fun e => by have := HXB.out; omega)).trans (HBZ.out.block k hk)⟩
                have HCK : Hid (∀ wa wb : World, Below wa.heap.size wa wb → (fun wq => wq.cell? ⟨rb, 2, none⟩ = some (.slice ao A.length cap) ∧ wq.cell? ⟨rb, 0, none⟩ = some (.int .i64 e2.r) ∧ VAt wq xb 0 e2) wa → (fun wq => wq.cell? ⟨rb, 2, none⟩ = some (.slice ao A.length cap) ∧ wq.cell? ⟨rb, 0, none⟩ = some (.int .i64 e2.r) ∧ VAt wq xb 0 e2) wb) := fun wa wb hb hh => ⟨cell_below hb hh.1, cell_below hb hh.2.1, hh.2.2.keep (hb.block _ hh.2.2.lt)⟩
                have HE2 : Hid (e2 = ⟨me, n, c, rc, l.v + 1, d, u, h⟩) := he2
                have HSW : Hid (w.heap.size ≤ Y.heap.size) := HCW.out.size
                have HWL : Hid (∀ g, (Value.slice ao A.length cap).ownBlock = some g → g < w.heap.size) := fun g hg => (ownsRow_lt HV.out.row hg).2
                go_upto_region 11 with fail
                rw [← hY]
                clear hY hYB he2 hYc fz
                go_wp2_with fail
                rename_i K hK
                try rw [show ∀ a : Act, a.put none undef = a from fun _ => rfl]
                refine wp_region_mix (fun wq => wq.cell? ⟨rb, 2, none⟩ = some (.slice ao A.length cap) ∧ wq.cell? ⟨rb, 0, none⟩ = some (.int .i64 e2.r) ∧ VAt wq xb 0 e2) (fun i => i == 11 || i == 12 || i == 15) 15 (by kernel_rfl) rfl (by kernel_rfl) (by kernel_rfl) (by kernel_rfl) ?_
                refine withFrP (N := 92) rfl ?_
                intro f0 F0 hff
                have e0 : f0 0 = Value.pointer (some ⟨rb, 0, none⟩) := hff 0
                have e13 : f0 13 = Value.pointer (some ⟨xb, 0, none⟩) := hff 13
                clear hff
                have HCC : (fun wq => wq.cell? ⟨rb, 2, none⟩ = some (.slice ao A.length cap) ∧ wq.cell? ⟨rb, 0, none⟩ = some (.int .i64 e2.r) ∧ VAt wq xb 0 e2) (({ Y with drawn := Y.drawn + 1 } : World)) := ⟨y2, y0, HVX.out.keep rfl⟩
                have HC1 : (fun wq => wq.cell? ⟨rb, 2, none⟩ = some (.slice ao A.length cap) ∧ wq.cell? ⟨rb, 0, none⟩ = some (.int .i64 e2.r) ∧ VAt wq xb 0 e2) ((({ Y with drawn := Y.drawn + 1 } : World)).alloc (.cells #[.int .i64 e2.r, .string ⟨e2.n.toArray⟩, .int .i64 e2.c, .int .i64 e2.rc, .int .i64 e2.v, .int .i64 e2.d, .int .i64 e2.u, .int .i64 e2.h] 130)) := HCK.out _ _ ((Below.refl _ _).alloc (Nat.le_refl _) _) HCC
                refine lyp F0 rfl HCC rfl (by omega) (wanted_none rfl) (v := Value.pointer (some ⟨rb, 0, none⟩)) (fun wr hwr => by simp only [execOp, (F0.eval 0 (by omega)).trans (show _ = Value.pointer (some ⟨rb, 0, none⟩) from by simp [upd, e0, e13])]; first | rfl | simp [go_sem]) fun F1 => ?_
                refine lyp F1 rfl HCC rfl (by omega) (wanted_none rfl) (v := Value.pointer (some ⟨rb, 0, none⟩)) (fun wr hwr => by simp only [execOp, (F1.eval 0 (by omega)).trans (show _ = Value.pointer (some ⟨rb, 0, none⟩) from by simp [upd, e0, e13])]; first | rfl | simp [go_sem]) fun F2 => ?_
                refine lyp F2 rfl HCC rfl (by omega) (wanted_none rfl) (v := Value.pointer (some ⟨rb, 0, none⟩)) (fun wr hwr => by simp only [execOp, (F2.eval 78 (by omega)).trans (show _ = Value.pointer (some ⟨rb, 0, none⟩) from by simp [upd, e0, e13])]; simp [go_sem]) fun F3 => ?_
                refine lyp F3 rfl HCC rfl (by omega) (wanted_none rfl) (v := Value.pointer (some ⟨rb, 2, none⟩)) (fun wr hwr => by simp only [execOp, (F3.eval 79 (by omega)).trans (show _ = Value.pointer (some ⟨rb, 0, none⟩) from by simp [upd, e0, e13])]; simp [go_sem]) fun F4 => ?_
                refine lyp F4 rfl HCC rfl (by omega) (wanted_none rfl) (v := Value.slice ao A.length cap) (fun wr hwr => by simp only [execOp, (F4.eval 80 (by omega)).trans (show _ = Value.pointer (some ⟨rb, 2, none⟩) from by simp [upd, e0, e13])]; simp [go_sem, hwr.1]) fun F5 => ?_
                refine lyp F5 rfl HCC rfl (by omega) (wanted_none rfl) (v := Value.pointer (some ⟨rb, 0, none⟩)) (fun wr hwr => by simp only [execOp, (F5.eval 0 (by omega)).trans (show _ = Value.pointer (some ⟨rb, 0, none⟩) from by simp [upd, e0, e13])]; first | rfl | simp [go_sem]) fun F6 => ?_
                refine lyp F6 rfl HCC rfl (by omega) (wanted_none rfl) (v := Value.pointer (some ⟨rb, 0, none⟩)) (fun wr hwr => by simp only [execOp, (F6.eval 82 (by omega)).trans (show _ = Value.pointer (some ⟨rb, 0, none⟩) from by simp [upd, e0, e13])]; simp [go_sem]) fun F7 => ?_
                refine lyp F7 rfl HCC rfl (by omega) (wanted_none rfl) (v := Value.pointer (some ⟨rb, 0, none⟩)) (fun wr hwr => by simp only [execOp, (F7.eval 83 (by omega)).trans (show _ = Value.pointer (some ⟨rb, 0, none⟩) from by simp [upd, e0, e13])]; simp [go_sem]) fun F8 => ?_
                refine lyp F8 rfl HCC rfl (by omega) (wanted_none rfl) (v := Value.int .i64 e2.r) (fun wr hwr => by simp only [execOp, (F8.eval 84 (by omega)).trans (show _ = Value.pointer (some ⟨rb, 0, none⟩) from by simp [upd, e0, e13])]; simp [go_sem, hwr.2.1]) fun F9 => ?_
                refine lyp F9 rfl HCC rfl (by omega) (wanted_none rfl) (v := Value.agg #[.string ⟨e2.n.toArray⟩, .int .i64 e2.c, .int .i64 e2.rc, .int .i64 e2.v, .int .i64 e2.d, .int .i64 e2.u, .int .i64 e2.h]) (fun wr hwr => by simp only [execOp, (F9.eval 13 (by omega)).trans (show _ = Value.pointer (some ⟨xb, 0, none⟩) from by simp [upd, e0, e13])]; simp [go_sem, hwr.2.2.c0, hwr.2.2.c1, hwr.2.2.c2, hwr.2.2.c3, hwr.2.2.c4, hwr.2.2.c5, hwr.2.2.c6]) fun F10 => ?_
                refine lyp F10 rfl HCC rfl (by omega) (wanted_none rfl) (v := Value.agg #[.int .i64 e2.r, .string ⟨e2.n.toArray⟩, .int .i64 e2.c, .int .i64 e2.rc, .int .i64 e2.v, .int .i64 e2.d, .int .i64 e2.u, .int .i64 e2.h]) (fun wr hwr => by simp only [execOp, List.map_toArray, List.map_cons, List.map_nil, (F10.eval 85 (by omega)).trans (show _ = Value.int .i64 e2.r from by simp [upd, e0, e13]), (F10.eval 86 (by omega)).trans (show _ = Value.agg #[.string ⟨e2.n.toArray⟩, .int .i64 e2.c, .int .i64 e2.rc, .int .i64 e2.v, .int .i64 e2.d, .int .i64 e2.u, .int .i64 e2.h] from by simp [upd, e0, e13])]; simp [go_sem]; try rfl) fun F11 => ?_
                refine lep F11 rfl HCC rfl (by omega) (wanted_none rfl) (v := Value.slice (some ⟨Y.heap.size, 0, none⟩) 1 1) (w1 := (({ Y with drawn := Y.drawn + 1 } : World)).alloc (.cells #[.int .i64 e2.r, .string ⟨e2.n.toArray⟩, .int .i64 e2.c, .int .i64 e2.rc, .int .i64 e2.v, .int .i64 e2.d, .int .i64 e2.u, .int .i64 e2.h] 130)) (by simp only [execOp, List.map_toArray, List.map_cons, List.map_nil, (F11.eval 87 (by omega)).trans (show _ = Value.agg #[.int .i64 e2.r, .string ⟨e2.n.toArray⟩, .int .i64 e2.c, .int .i64 e2.rc, .int .i64 e2.v, .int .i64 e2.d, .int .i64 e2.u, .int .i64 e2.h] from by simp [upd, e0, e13])]; simp [go_sem]) fun F12 => ?_
                obtain ⟨ao5, cap5, w5, hrun, hc5, hz5, hf5, hV5, hch5, hat5⟩ := (show RVw L rb me N (.slice ao A.length cap) A (({ Y with drawn := Y.drawn + 1 } : World)) from HVY.out.keep rfl (fun _ _ => rfl)).push HAL.out e2
                have HC5 : (fun wq => wq.cell? ⟨rb, 2, none⟩ = some (.slice ao A.length cap) ∧ wq.cell? ⟨rb, 0, none⟩ = some (.int .i64 e2.r) ∧ VAt wq xb 0 e2) w5 := ⟨hz5, (by have hB := (show RVw L rb me N (.slice ao A.length cap) A ({ Y with drawn := Y.drawn + 1 } : World) from HVY.out.keep rfl (fun _ _ => rfl)).blk; exact (hc5.blk hB (fun hh => by obtain ⟨cu, hcu⟩ := ownsRow_type HVY.out.row hh; exact Blk.ne_t HVY.out.blk (show Blk Y rb cu 130 from hcu) (by decide) rfl)).cell 0 |>.trans (HVY.out.blk.cell 0).symm |>.trans y0), HVX.out.keep (hc5.block xb HVX.out.lt (fun hh => HNX.out.2 _ hh rfl))⟩
                refine lep F12 rfl HC1 rfl (by omega) (wanted_none rfl) (v := Value.slice ao5 (A.length + 1) cap5) (w1 := w5) (by simp only [execOp, resolve, invoke, builtin, List.map_toArray, List.map_cons, List.map_nil, (F12.eval 81 (by omega)).trans (show _ = Value.slice ao A.length cap from by simp [upd, e0, e13]), (F12.eval 88 (by omega)).trans (show _ = Value.slice (some ⟨Y.heap.size, 0, none⟩) 1 1 from by simp [upd, e0, e13])]; simp only [Sem.run_bind, Sem.run_pure, Result.andThen_ok, show _ = _ from hrun _]; try rfl) fun F13 => ?_
                refine lyp F13 rfl HC5 rfl (by omega) (wanted_none rfl) (v := Value.pointer (some ⟨rb, 0, none⟩)) (fun wr hwr => by simp only [execOp, (F13.eval 77 (by omega)).trans (show _ = Value.pointer (some ⟨rb, 0, none⟩) from by simp [upd, e0, e13])]; simp [go_sem]) fun F14 => ?_
                refine lyp F14 rfl HC5 rfl (by omega) (wanted_none rfl) (v := Value.pointer (some ⟨rb, 2, none⟩)) (fun wr hwr => by simp only [execOp, (F14.eval 90 (by omega)).trans (show _ = Value.pointer (some ⟨rb, 0, none⟩) from by simp [upd, e0, e13])]; simp [go_sem]) fun F15 => ?_
                refine lst rfl HC5 rfl (wanted_none rfl) (w1 := w5.setCell ⟨rb, 2, none⟩ (.slice ao5 (A.length + 1) cap5)) (by simp only [execOp, (F15.eval 91 (by omega)).trans (show _ = Value.pointer (some ⟨rb, 2, none⟩) from by simp [upd, e0, e13]), (F15.eval 89 (by omega)).trans (show _ = Value.slice ao5 (A.length + 1) cap5 from by simp [upd, e0, e13])]; simp [go_sem, hf5, hz5]) ?_
                refine ⟨fun h => by omega, ?_⟩
                refine hK _ _ ?_
                clear F0 F1 F2 F3 F4 F5 F6 F7 F8 F9 F10 F11 F12 F13 F14 F15 e0 e13 HCC HC1 HC5 hz5 hf5 hrun hc5
                simp only [Act.put, List.setIfInBounds_toArray, List.set_cons_succ, List.set_cons_zero]
                go_wp2_with fail
                go_ret
                refine ⟨by rw [HCD.out]; rfl, ?_⟩
                rw [HNX2.out, ← HE2.out]
                refine ⟨⟨_, hV5, fun g hg => (hat5 g hg).imp id (fun hh => Nat.le_trans HSW.out hh)⟩, ?_⟩
                exact (HCW.out.mono (fun _ _ hh => hh.elim)).trans (show Chg (fun k => k = rb ∨ (Value.slice ao A.length cap).ownBlock = some k) Y _ from ⟨hch5.os, hch5.tape, hch5.output, hch5.size, hch5.block⟩) (fun j hj hh => hh)
            · have HNX2 : Hid (NX = A ++ [⟨me, n, c, rc, l.v + 1, d, u, h⟩]) := show _ = _ from by rw [HN0.out, if_neg (by simp), if_neg (fun h => hl0 h.1), if_neg (fun h => q3 h.2.2.2.2.1)]
              replace q3 : (l.u == u) = false := by simpa using q3
              clear HC0 HN0
              have fz : Z.frozen? ⟨xb, 3, none⟩ = false := HXZ.out.frozen 3
              obtain ⟨e2, he2⟩ : ∃ e2 : Ent, e2 = ⟨me, n, c, rc, l.v + 1, d, u, h⟩ := ⟨_, rfl⟩
              obtain ⟨Y, hY⟩ : ∃ Y, Y = Z.setCell ⟨xb, 3, none⟩ (.int .i64 (l.v + 1)) := ⟨_, rfl⟩
              have hYc : Chg (fun k => k = xb) Z Y := by rw [hY]; exact setCell_chg _ _ _ _
              have hYB : Blk Y xb #[.string ⟨n.toArray⟩, .int .i64 c, .int .i64 rc, .int .i64 (l.v + 1), .int .i64 d, .int .i64 u, .int .i64 h] 86 := by rw [hY]; exact HXZ.out.set 3 _
              have HVX : Hid (VAt Y xb 0 e2) := show VAt Y xb 0 e2 from by rw [he2]; exact ⟨hYB.cell 0, hYB.cell 1, hYB.cell 2, hYB.cell 3, hYB.cell 4, hYB.cell 5, hYB.cell 6⟩
              have HVY : Hid (RVw L rb me N (.slice ao A.length cap) A Y) := show RVw L rb me N (.slice ao A.length cap) A Y from HVZ.out.keep (hYc.block _ HVZ.out.blk.lt HNX.out.1) (fun g hg => hYc.block _ (ownsRow_lt HVZ.out.row hg).2 (HNX.out.2 g hg))
              have y0 : Y.cell? ⟨rb, 0, none⟩ = some (.int .i64 e2.r) := by rw [he2]; exact HVY.out.c0
              have y2 : Y.cell? ⟨rb, 2, none⟩ = some (.slice ao A.length cap) := HVY.out.c2
              have HCW : Hid (Chg (fun _ => False) w Y) := show Chg (fun _ => False) w Y from ⟨(hYc.os).trans HBZ.out.os, (hYc.tape).trans HBZ.out.tape, (hYc.output).trans HBZ.out.output, Nat.le_trans HBZ.out.size hYc.size, fun k hk _ => (hYc.block k (Nat.lt_of_lt_of_le hk HBZ.out.size) (fun e => by have := HXB.out; omega)).trans (HBZ.out.block k hk)⟩
              have HCK : Hid (∀ wa wb : World, Below wa.heap.size wa wb → (fun wq => wq.cell? ⟨rb, 2, none⟩ = some (.slice ao A.length cap) ∧ wq.cell? ⟨rb, 0, none⟩ = some (.int .i64 e2.r) ∧ VAt wq xb 0 e2) wa → (fun wq => wq.cell? ⟨rb, 2, none⟩ = some (.slice ao A.length cap) ∧ wq.cell? ⟨rb, 0, none⟩ = some (.int .i64 e2.r) ∧ VAt wq xb 0 e2) wb) := fun wa wb hb hh => ⟨cell_below hb hh.1, cell_below hb hh.2.1, hh.2.2.keep (hb.block _ hh.2.2.lt)⟩
              have HE2 : Hid (e2 = ⟨me, n, c, rc, l.v + 1, d, u, h⟩) := he2
              have HSW : Hid (w.heap.size ≤ Y.heap.size) := HCW.out.size
              have HWL : Hid (∀ g, (Value.slice ao A.length cap).ownBlock = some g → g < w.heap.size) := fun g hg => (ownsRow_lt HV.out.row hg).2
              go_upto_region 11 with fail
              rw [← hY]
              clear hY hYB he2 hYc fz
              go_wp2_with fail
              rename_i K hK
              try rw [show ∀ a : Act, a.put none undef = a from fun _ => rfl]
              refine wp_region_mix (fun wq => wq.cell? ⟨rb, 2, none⟩ = some (.slice ao A.length cap) ∧ wq.cell? ⟨rb, 0, none⟩ = some (.int .i64 e2.r) ∧ VAt wq xb 0 e2) (fun i => i == 11 || i == 12 || i == 15) 15 (by kernel_rfl) rfl (by kernel_rfl) (by kernel_rfl) (by kernel_rfl) ?_
              refine withFrP (N := 92) rfl ?_
              intro f0 F0 hff
              have e0 : f0 0 = Value.pointer (some ⟨rb, 0, none⟩) := hff 0
              have e13 : f0 13 = Value.pointer (some ⟨xb, 0, none⟩) := hff 13
              clear hff
              have HCC : (fun wq => wq.cell? ⟨rb, 2, none⟩ = some (.slice ao A.length cap) ∧ wq.cell? ⟨rb, 0, none⟩ = some (.int .i64 e2.r) ∧ VAt wq xb 0 e2) (({ Y with drawn := Y.drawn + 1 } : World)) := ⟨y2, y0, HVX.out.keep rfl⟩
              have HC1 : (fun wq => wq.cell? ⟨rb, 2, none⟩ = some (.slice ao A.length cap) ∧ wq.cell? ⟨rb, 0, none⟩ = some (.int .i64 e2.r) ∧ VAt wq xb 0 e2) ((({ Y with drawn := Y.drawn + 1 } : World)).alloc (.cells #[.int .i64 e2.r, .string ⟨e2.n.toArray⟩, .int .i64 e2.c, .int .i64 e2.rc, .int .i64 e2.v, .int .i64 e2.d, .int .i64 e2.u, .int .i64 e2.h] 130)) := HCK.out _ _ ((Below.refl _ _).alloc (Nat.le_refl _) _) HCC
              refine lyp F0 rfl HCC rfl (by omega) (wanted_none rfl) (v := Value.pointer (some ⟨rb, 0, none⟩)) (fun wr hwr => by simp only [execOp, (F0.eval 0 (by omega)).trans (show _ = Value.pointer (some ⟨rb, 0, none⟩) from by simp [upd, e0, e13])]; first | rfl | simp [go_sem]) fun F1 => ?_
              refine lyp F1 rfl HCC rfl (by omega) (wanted_none rfl) (v := Value.pointer (some ⟨rb, 0, none⟩)) (fun wr hwr => by simp only [execOp, (F1.eval 0 (by omega)).trans (show _ = Value.pointer (some ⟨rb, 0, none⟩) from by simp [upd, e0, e13])]; first | rfl | simp [go_sem]) fun F2 => ?_
              refine lyp F2 rfl HCC rfl (by omega) (wanted_none rfl) (v := Value.pointer (some ⟨rb, 0, none⟩)) (fun wr hwr => by simp only [execOp, (F2.eval 78 (by omega)).trans (show _ = Value.pointer (some ⟨rb, 0, none⟩) from by simp [upd, e0, e13])]; simp [go_sem]) fun F3 => ?_
              refine lyp F3 rfl HCC rfl (by omega) (wanted_none rfl) (v := Value.pointer (some ⟨rb, 2, none⟩)) (fun wr hwr => by simp only [execOp, (F3.eval 79 (by omega)).trans (show _ = Value.pointer (some ⟨rb, 0, none⟩) from by simp [upd, e0, e13])]; simp [go_sem]) fun F4 => ?_
              refine lyp F4 rfl HCC rfl (by omega) (wanted_none rfl) (v := Value.slice ao A.length cap) (fun wr hwr => by simp only [execOp, (F4.eval 80 (by omega)).trans (show _ = Value.pointer (some ⟨rb, 2, none⟩) from by simp [upd, e0, e13])]; simp [go_sem, hwr.1]) fun F5 => ?_
              refine lyp F5 rfl HCC rfl (by omega) (wanted_none rfl) (v := Value.pointer (some ⟨rb, 0, none⟩)) (fun wr hwr => by simp only [execOp, (F5.eval 0 (by omega)).trans (show _ = Value.pointer (some ⟨rb, 0, none⟩) from by simp [upd, e0, e13])]; first | rfl | simp [go_sem]) fun F6 => ?_
              refine lyp F6 rfl HCC rfl (by omega) (wanted_none rfl) (v := Value.pointer (some ⟨rb, 0, none⟩)) (fun wr hwr => by simp only [execOp, (F6.eval 82 (by omega)).trans (show _ = Value.pointer (some ⟨rb, 0, none⟩) from by simp [upd, e0, e13])]; simp [go_sem]) fun F7 => ?_
              refine lyp F7 rfl HCC rfl (by omega) (wanted_none rfl) (v := Value.pointer (some ⟨rb, 0, none⟩)) (fun wr hwr => by simp only [execOp, (F7.eval 83 (by omega)).trans (show _ = Value.pointer (some ⟨rb, 0, none⟩) from by simp [upd, e0, e13])]; simp [go_sem]) fun F8 => ?_
              refine lyp F8 rfl HCC rfl (by omega) (wanted_none rfl) (v := Value.int .i64 e2.r) (fun wr hwr => by simp only [execOp, (F8.eval 84 (by omega)).trans (show _ = Value.pointer (some ⟨rb, 0, none⟩) from by simp [upd, e0, e13])]; simp [go_sem, hwr.2.1]) fun F9 => ?_
              refine lyp F9 rfl HCC rfl (by omega) (wanted_none rfl) (v := Value.agg #[.string ⟨e2.n.toArray⟩, .int .i64 e2.c, .int .i64 e2.rc, .int .i64 e2.v, .int .i64 e2.d, .int .i64 e2.u, .int .i64 e2.h]) (fun wr hwr => by simp only [execOp, (F9.eval 13 (by omega)).trans (show _ = Value.pointer (some ⟨xb, 0, none⟩) from by simp [upd, e0, e13])]; simp [go_sem, hwr.2.2.c0, hwr.2.2.c1, hwr.2.2.c2, hwr.2.2.c3, hwr.2.2.c4, hwr.2.2.c5, hwr.2.2.c6]) fun F10 => ?_
              refine lyp F10 rfl HCC rfl (by omega) (wanted_none rfl) (v := Value.agg #[.int .i64 e2.r, .string ⟨e2.n.toArray⟩, .int .i64 e2.c, .int .i64 e2.rc, .int .i64 e2.v, .int .i64 e2.d, .int .i64 e2.u, .int .i64 e2.h]) (fun wr hwr => by simp only [execOp, List.map_toArray, List.map_cons, List.map_nil, (F10.eval 85 (by omega)).trans (show _ = Value.int .i64 e2.r from by simp [upd, e0, e13]), (F10.eval 86 (by omega)).trans (show _ = Value.agg #[.string ⟨e2.n.toArray⟩, .int .i64 e2.c, .int .i64 e2.rc, .int .i64 e2.v, .int .i64 e2.d, .int .i64 e2.u, .int .i64 e2.h] from by simp [upd, e0, e13])]; simp [go_sem]; try rfl) fun F11 => ?_
              refine lep F11 rfl HCC rfl (by omega) (wanted_none rfl) (v := Value.slice (some ⟨Y.heap.size, 0, none⟩) 1 1) (w1 := (({ Y with drawn := Y.drawn + 1 } : World)).alloc (.cells #[.int .i64 e2.r, .string ⟨e2.n.toArray⟩, .int .i64 e2.c, .int .i64 e2.rc, .int .i64 e2.v, .int .i64 e2.d, .int .i64 e2.u, .int .i64 e2.h] 130)) (by simp only [execOp, List.map_toArray, List.map_cons, List.map_nil, (F11.eval 87 (by omega)).trans (show _ = Value.agg #[.int .i64 e2.r, .string ⟨e2.n.toArray⟩, .int .i64 e2.c, .int .i64 e2.rc, .int .i64 e2.v, .int .i64 e2.d, .int .i64 e2.u, .int .i64 e2.h] from by simp [upd, e0, e13])]; simp [go_sem]) fun F12 => ?_
              obtain ⟨ao5, cap5, w5, hrun, hc5, hz5, hf5, hV5, hch5, hat5⟩ := (show RVw L rb me N (.slice ao A.length cap) A (({ Y with drawn := Y.drawn + 1 } : World)) from HVY.out.keep rfl (fun _ _ => rfl)).push HAL.out e2
              have HC5 : (fun wq => wq.cell? ⟨rb, 2, none⟩ = some (.slice ao A.length cap) ∧ wq.cell? ⟨rb, 0, none⟩ = some (.int .i64 e2.r) ∧ VAt wq xb 0 e2) w5 := ⟨hz5, (by have hB := (show RVw L rb me N (.slice ao A.length cap) A ({ Y with drawn := Y.drawn + 1 } : World) from HVY.out.keep rfl (fun _ _ => rfl)).blk; exact (hc5.blk hB (fun hh => by obtain ⟨cu, hcu⟩ := ownsRow_type HVY.out.row hh; exact Blk.ne_t HVY.out.blk (show Blk Y rb cu 130 from hcu) (by decide) rfl)).cell 0 |>.trans (HVY.out.blk.cell 0).symm |>.trans y0), HVX.out.keep (hc5.block xb HVX.out.lt (fun hh => HNX.out.2 _ hh rfl))⟩
              refine lep F12 rfl HC1 rfl (by omega) (wanted_none rfl) (v := Value.slice ao5 (A.length + 1) cap5) (w1 := w5) (by simp only [execOp, resolve, invoke, builtin, List.map_toArray, List.map_cons, List.map_nil, (F12.eval 81 (by omega)).trans (show _ = Value.slice ao A.length cap from by simp [upd, e0, e13]), (F12.eval 88 (by omega)).trans (show _ = Value.slice (some ⟨Y.heap.size, 0, none⟩) 1 1 from by simp [upd, e0, e13])]; simp only [Sem.run_bind, Sem.run_pure, Result.andThen_ok, show _ = _ from hrun _]; try rfl) fun F13 => ?_
              refine lyp F13 rfl HC5 rfl (by omega) (wanted_none rfl) (v := Value.pointer (some ⟨rb, 0, none⟩)) (fun wr hwr => by simp only [execOp, (F13.eval 77 (by omega)).trans (show _ = Value.pointer (some ⟨rb, 0, none⟩) from by simp [upd, e0, e13])]; simp [go_sem]) fun F14 => ?_
              refine lyp F14 rfl HC5 rfl (by omega) (wanted_none rfl) (v := Value.pointer (some ⟨rb, 2, none⟩)) (fun wr hwr => by simp only [execOp, (F14.eval 90 (by omega)).trans (show _ = Value.pointer (some ⟨rb, 0, none⟩) from by simp [upd, e0, e13])]; simp [go_sem]) fun F15 => ?_
              refine lst rfl HC5 rfl (wanted_none rfl) (w1 := w5.setCell ⟨rb, 2, none⟩ (.slice ao5 (A.length + 1) cap5)) (by simp only [execOp, (F15.eval 91 (by omega)).trans (show _ = Value.pointer (some ⟨rb, 2, none⟩) from by simp [upd, e0, e13]), (F15.eval 89 (by omega)).trans (show _ = Value.slice ao5 (A.length + 1) cap5 from by simp [upd, e0, e13])]; simp [go_sem, hf5, hz5]) ?_
              refine ⟨fun h => by omega, ?_⟩
              refine hK _ _ ?_
              clear F0 F1 F2 F3 F4 F5 F6 F7 F8 F9 F10 F11 F12 F13 F14 F15 e0 e13 HCC HC1 HC5 hz5 hf5 hrun hc5
              simp only [Act.put, List.setIfInBounds_toArray, List.set_cons_succ, List.set_cons_zero]
              go_wp2_with fail
              go_ret
              refine ⟨by rw [HCD.out]; rfl, ?_⟩
              rw [HNX2.out, ← HE2.out]
              refine ⟨⟨_, hV5, fun g hg => (hat5 g hg).imp id (fun hh => Nat.le_trans HSW.out hh)⟩, ?_⟩
              exact (HCW.out.mono (fun _ _ hh => hh.elim)).trans (show Chg (fun k => k = rb ∨ (Value.slice ao A.length cap).ownBlock = some k) Y _ from ⟨hch5.os, hch5.tape, hch5.output, hch5.size, hch5.block⟩) (fun j hj hh => hh)
          · have HNX2 : Hid (NX = A ++ [⟨me, n, c, rc, l.v + 1, d, u, h⟩]) := show _ = _ from by rw [HN0.out, if_neg (by simp), if_neg (fun h => hl0 h.1), if_neg (fun h => q2 h.2.2.2.1)]
            replace q2 : (l.d == d) = false := by simpa using q2
            clear HC0 HN0
            have fz : Z.frozen? ⟨xb, 3, none⟩ = false := HXZ.out.frozen 3
            obtain ⟨e2, he2⟩ : ∃ e2 : Ent, e2 = ⟨me, n, c, rc, l.v + 1, d, u, h⟩ := ⟨_, rfl⟩
            obtain ⟨Y, hY⟩ : ∃ Y, Y = Z.setCell ⟨xb, 3, none⟩ (.int .i64 (l.v + 1)) := ⟨_, rfl⟩
            have hYc : Chg (fun k => k = xb) Z Y := by rw [hY]; exact setCell_chg _ _ _ _
            have hYB : Blk Y xb #[.string ⟨n.toArray⟩, .int .i64 c, .int .i64 rc, .int .i64 (l.v + 1), .int .i64 d, .int .i64 u, .int .i64 h] 86 := by rw [hY]; exact HXZ.out.set 3 _
            have HVX : Hid (VAt Y xb 0 e2) := show VAt Y xb 0 e2 from by rw [he2]; exact ⟨hYB.cell 0, hYB.cell 1, hYB.cell 2, hYB.cell 3, hYB.cell 4, hYB.cell 5, hYB.cell 6⟩
            have HVY : Hid (RVw L rb me N (.slice ao A.length cap) A Y) := show RVw L rb me N (.slice ao A.length cap) A Y from HVZ.out.keep (hYc.block _ HVZ.out.blk.lt HNX.out.1) (fun g hg => hYc.block _ (ownsRow_lt HVZ.out.row hg).2 (HNX.out.2 g hg))
            have y0 : Y.cell? ⟨rb, 0, none⟩ = some (.int .i64 e2.r) := by rw [he2]; exact HVY.out.c0
            have y2 : Y.cell? ⟨rb, 2, none⟩ = some (.slice ao A.length cap) := HVY.out.c2
            have HCW : Hid (Chg (fun _ => False) w Y) := show Chg (fun _ => False) w Y from ⟨(hYc.os).trans HBZ.out.os, (hYc.tape).trans HBZ.out.tape, (hYc.output).trans HBZ.out.output, Nat.le_trans HBZ.out.size hYc.size, fun k hk _ => (hYc.block k (Nat.lt_of_lt_of_le hk HBZ.out.size) (fun e => by have := HXB.out; omega)).trans (HBZ.out.block k hk)⟩
            have HCK : Hid (∀ wa wb : World, Below wa.heap.size wa wb → (fun wq => wq.cell? ⟨rb, 2, none⟩ = some (.slice ao A.length cap) ∧ wq.cell? ⟨rb, 0, none⟩ = some (.int .i64 e2.r) ∧ VAt wq xb 0 e2) wa → (fun wq => wq.cell? ⟨rb, 2, none⟩ = some (.slice ao A.length cap) ∧ wq.cell? ⟨rb, 0, none⟩ = some (.int .i64 e2.r) ∧ VAt wq xb 0 e2) wb) := fun wa wb hb hh => ⟨cell_below hb hh.1, cell_below hb hh.2.1, hh.2.2.keep (hb.block _ hh.2.2.lt)⟩
            have HE2 : Hid (e2 = ⟨me, n, c, rc, l.v + 1, d, u, h⟩) := he2
            have HSW : Hid (w.heap.size ≤ Y.heap.size) := HCW.out.size
            have HWL : Hid (∀ g, (Value.slice ao A.length cap).ownBlock = some g → g < w.heap.size) := fun g hg => (ownsRow_lt HV.out.row hg).2
            go_upto_region 11 with fail
            rw [← hY]
            clear hY hYB he2 hYc fz
            go_wp2_with fail
            rename_i K hK
            try rw [show ∀ a : Act, a.put none undef = a from fun _ => rfl]
            refine wp_region_mix (fun wq => wq.cell? ⟨rb, 2, none⟩ = some (.slice ao A.length cap) ∧ wq.cell? ⟨rb, 0, none⟩ = some (.int .i64 e2.r) ∧ VAt wq xb 0 e2) (fun i => i == 11 || i == 12 || i == 15) 15 (by kernel_rfl) rfl (by kernel_rfl) (by kernel_rfl) (by kernel_rfl) ?_
            refine withFrP (N := 92) rfl ?_
            intro f0 F0 hff
            have e0 : f0 0 = Value.pointer (some ⟨rb, 0, none⟩) := hff 0
            have e13 : f0 13 = Value.pointer (some ⟨xb, 0, none⟩) := hff 13
            clear hff
            have HCC : (fun wq => wq.cell? ⟨rb, 2, none⟩ = some (.slice ao A.length cap) ∧ wq.cell? ⟨rb, 0, none⟩ = some (.int .i64 e2.r) ∧ VAt wq xb 0 e2) (({ Y with drawn := Y.drawn + 1 } : World)) := ⟨y2, y0, HVX.out.keep rfl⟩
            have HC1 : (fun wq => wq.cell? ⟨rb, 2, none⟩ = some (.slice ao A.length cap) ∧ wq.cell? ⟨rb, 0, none⟩ = some (.int .i64 e2.r) ∧ VAt wq xb 0 e2) ((({ Y with drawn := Y.drawn + 1 } : World)).alloc (.cells #[.int .i64 e2.r, .string ⟨e2.n.toArray⟩, .int .i64 e2.c, .int .i64 e2.rc, .int .i64 e2.v, .int .i64 e2.d, .int .i64 e2.u, .int .i64 e2.h] 130)) := HCK.out _ _ ((Below.refl _ _).alloc (Nat.le_refl _) _) HCC
            refine lyp F0 rfl HCC rfl (by omega) (wanted_none rfl) (v := Value.pointer (some ⟨rb, 0, none⟩)) (fun wr hwr => by simp only [execOp, (F0.eval 0 (by omega)).trans (show _ = Value.pointer (some ⟨rb, 0, none⟩) from by simp [upd, e0, e13])]; first | rfl | simp [go_sem]) fun F1 => ?_
            refine lyp F1 rfl HCC rfl (by omega) (wanted_none rfl) (v := Value.pointer (some ⟨rb, 0, none⟩)) (fun wr hwr => by simp only [execOp, (F1.eval 0 (by omega)).trans (show _ = Value.pointer (some ⟨rb, 0, none⟩) from by simp [upd, e0, e13])]; first | rfl | simp [go_sem]) fun F2 => ?_
            refine lyp F2 rfl HCC rfl (by omega) (wanted_none rfl) (v := Value.pointer (some ⟨rb, 0, none⟩)) (fun wr hwr => by simp only [execOp, (F2.eval 78 (by omega)).trans (show _ = Value.pointer (some ⟨rb, 0, none⟩) from by simp [upd, e0, e13])]; simp [go_sem]) fun F3 => ?_
            refine lyp F3 rfl HCC rfl (by omega) (wanted_none rfl) (v := Value.pointer (some ⟨rb, 2, none⟩)) (fun wr hwr => by simp only [execOp, (F3.eval 79 (by omega)).trans (show _ = Value.pointer (some ⟨rb, 0, none⟩) from by simp [upd, e0, e13])]; simp [go_sem]) fun F4 => ?_
            refine lyp F4 rfl HCC rfl (by omega) (wanted_none rfl) (v := Value.slice ao A.length cap) (fun wr hwr => by simp only [execOp, (F4.eval 80 (by omega)).trans (show _ = Value.pointer (some ⟨rb, 2, none⟩) from by simp [upd, e0, e13])]; simp [go_sem, hwr.1]) fun F5 => ?_
            refine lyp F5 rfl HCC rfl (by omega) (wanted_none rfl) (v := Value.pointer (some ⟨rb, 0, none⟩)) (fun wr hwr => by simp only [execOp, (F5.eval 0 (by omega)).trans (show _ = Value.pointer (some ⟨rb, 0, none⟩) from by simp [upd, e0, e13])]; first | rfl | simp [go_sem]) fun F6 => ?_
            refine lyp F6 rfl HCC rfl (by omega) (wanted_none rfl) (v := Value.pointer (some ⟨rb, 0, none⟩)) (fun wr hwr => by simp only [execOp, (F6.eval 82 (by omega)).trans (show _ = Value.pointer (some ⟨rb, 0, none⟩) from by simp [upd, e0, e13])]; simp [go_sem]) fun F7 => ?_
            refine lyp F7 rfl HCC rfl (by omega) (wanted_none rfl) (v := Value.pointer (some ⟨rb, 0, none⟩)) (fun wr hwr => by simp only [execOp, (F7.eval 83 (by omega)).trans (show _ = Value.pointer (some ⟨rb, 0, none⟩) from by simp [upd, e0, e13])]; simp [go_sem]) fun F8 => ?_
            refine lyp F8 rfl HCC rfl (by omega) (wanted_none rfl) (v := Value.int .i64 e2.r) (fun wr hwr => by simp only [execOp, (F8.eval 84 (by omega)).trans (show _ = Value.pointer (some ⟨rb, 0, none⟩) from by simp [upd, e0, e13])]; simp [go_sem, hwr.2.1]) fun F9 => ?_
            refine lyp F9 rfl HCC rfl (by omega) (wanted_none rfl) (v := Value.agg #[.string ⟨e2.n.toArray⟩, .int .i64 e2.c, .int .i64 e2.rc, .int .i64 e2.v, .int .i64 e2.d, .int .i64 e2.u, .int .i64 e2.h]) (fun wr hwr => by simp only [execOp, (F9.eval 13 (by omega)).trans (show _ = Value.pointer (some ⟨xb, 0, none⟩) from by simp [upd, e0, e13])]; simp [go_sem, hwr.2.2.c0, hwr.2.2.c1, hwr.2.2.c2, hwr.2.2.c3, hwr.2.2.c4, hwr.2.2.c5, hwr.2.2.c6]) fun F10 => ?_
            refine lyp F10 rfl HCC rfl (by omega) (wanted_none rfl) (v := Value.agg #[.int .i64 e2.r, .string ⟨e2.n.toArray⟩, .int .i64 e2.c, .int .i64 e2.rc, .int .i64 e2.v, .int .i64 e2.d, .int .i64 e2.u, .int .i64 e2.h]) (fun wr hwr => by simp only [execOp, List.map_toArray, List.map_cons, List.map_nil, (F10.eval 85 (by omega)).trans (show _ = Value.int .i64 e2.r from by simp [upd, e0, e13]), (F10.eval 86 (by omega)).trans (show _ = Value.agg #[.string ⟨e2.n.toArray⟩, .int .i64 e2.c, .int .i64 e2.rc, .int .i64 e2.v, .int .i64 e2.d, .int .i64 e2.u, .int .i64 e2.h] from by simp [upd, e0, e13])]; simp [go_sem]; try rfl) fun F11 => ?_
            refine lep F11 rfl HCC rfl (by omega) (wanted_none rfl) (v := Value.slice (some ⟨Y.heap.size, 0, none⟩) 1 1) (w1 := (({ Y with drawn := Y.drawn + 1 } : World)).alloc (.cells #[.int .i64 e2.r, .string ⟨e2.n.toArray⟩, .int .i64 e2.c, .int .i64 e2.rc, .int .i64 e2.v, .int .i64 e2.d, .int .i64 e2.u, .int .i64 e2.h] 130)) (by simp only [execOp, List.map_toArray, List.map_cons, List.map_nil, (F11.eval 87 (by omega)).trans (show _ = Value.agg #[.int .i64 e2.r, .string ⟨e2.n.toArray⟩, .int .i64 e2.c, .int .i64 e2.rc, .int .i64 e2.v, .int .i64 e2.d, .int .i64 e2.u, .int .i64 e2.h] from by simp [upd, e0, e13])]; simp [go_sem]) fun F12 => ?_
            obtain ⟨ao5, cap5, w5, hrun, hc5, hz5, hf5, hV5, hch5, hat5⟩ := (show RVw L rb me N (.slice ao A.length cap) A (({ Y with drawn := Y.drawn + 1 } : World)) from HVY.out.keep rfl (fun _ _ => rfl)).push HAL.out e2
            have HC5 : (fun wq => wq.cell? ⟨rb, 2, none⟩ = some (.slice ao A.length cap) ∧ wq.cell? ⟨rb, 0, none⟩ = some (.int .i64 e2.r) ∧ VAt wq xb 0 e2) w5 := ⟨hz5, (by have hB := (show RVw L rb me N (.slice ao A.length cap) A ({ Y with drawn := Y.drawn + 1 } : World) from HVY.out.keep rfl (fun _ _ => rfl)).blk; exact (hc5.blk hB (fun hh => by obtain ⟨cu, hcu⟩ := ownsRow_type HVY.out.row hh; exact Blk.ne_t HVY.out.blk (show Blk Y rb cu 130 from hcu) (by decide) rfl)).cell 0 |>.trans (HVY.out.blk.cell 0).symm |>.trans y0), HVX.out.keep (hc5.block xb HVX.out.lt (fun hh => HNX.out.2 _ hh rfl))⟩
            refine lep F12 rfl HC1 rfl (by omega) (wanted_none rfl) (v := Value.slice ao5 (A.length + 1) cap5) (w1 := w5) (by simp only [execOp, resolve, invoke, builtin, List.map_toArray, List.map_cons, List.map_nil, (F12.eval 81 (by omega)).trans (show _ = Value.slice ao A.length cap from by simp [upd, e0, e13]), (F12.eval 88 (by omega)).trans (show _ = Value.slice (some ⟨Y.heap.size, 0, none⟩) 1 1 from by simp [upd, e0, e13])]; simp only [Sem.run_bind, Sem.run_pure, Result.andThen_ok, show _ = _ from hrun _]; try rfl) fun F13 => ?_
            refine lyp F13 rfl HC5 rfl (by omega) (wanted_none rfl) (v := Value.pointer (some ⟨rb, 0, none⟩)) (fun wr hwr => by simp only [execOp, (F13.eval 77 (by omega)).trans (show _ = Value.pointer (some ⟨rb, 0, none⟩) from by simp [upd, e0, e13])]; simp [go_sem]) fun F14 => ?_
            refine lyp F14 rfl HC5 rfl (by omega) (wanted_none rfl) (v := Value.pointer (some ⟨rb, 2, none⟩)) (fun wr hwr => by simp only [execOp, (F14.eval 90 (by omega)).trans (show _ = Value.pointer (some ⟨rb, 0, none⟩) from by simp [upd, e0, e13])]; simp [go_sem]) fun F15 => ?_
            refine lst rfl HC5 rfl (wanted_none rfl) (w1 := w5.setCell ⟨rb, 2, none⟩ (.slice ao5 (A.length + 1) cap5)) (by simp only [execOp, (F15.eval 91 (by omega)).trans (show _ = Value.pointer (some ⟨rb, 2, none⟩) from by simp [upd, e0, e13]), (F15.eval 89 (by omega)).trans (show _ = Value.slice ao5 (A.length + 1) cap5 from by simp [upd, e0, e13])]; simp [go_sem, hf5, hz5]) ?_
            refine ⟨fun h => by omega, ?_⟩
            refine hK _ _ ?_
            clear F0 F1 F2 F3 F4 F5 F6 F7 F8 F9 F10 F11 F12 F13 F14 F15 e0 e13 HCC HC1 HC5 hz5 hf5 hrun hc5
            simp only [Act.put, List.setIfInBounds_toArray, List.set_cons_succ, List.set_cons_zero]
            go_wp2_with fail
            go_ret
            refine ⟨by rw [HCD.out]; rfl, ?_⟩
            rw [HNX2.out, ← HE2.out]
            refine ⟨⟨_, hV5, fun g hg => (hat5 g hg).imp id (fun hh => Nat.le_trans HSW.out hh)⟩, ?_⟩
            exact (HCW.out.mono (fun _ _ hh => hh.elim)).trans (show Chg (fun k => k = rb ∨ (Value.slice ao A.length cap).ownBlock = some k) Y _ from ⟨hch5.os, hch5.tape, hch5.output, hch5.size, hch5.block⟩) (fun j hj hh => hh)
        · have HNX2 : Hid (NX = A ++ [⟨me, n, c, rc, l.v + 1, d, u, h⟩]) := show _ = _ from by rw [HN0.out, if_neg (by simp), if_neg (fun h => hl0 h.1), if_neg (fun h => q1 h.2.2.1)]
          replace q1 : (l.rc == rc) = false := by simpa using q1
          clear HC0 HN0
          have fz : Z.frozen? ⟨xb, 3, none⟩ = false := HXZ.out.frozen 3
          obtain ⟨e2, he2⟩ : ∃ e2 : Ent, e2 = ⟨me, n, c, rc, l.v + 1, d, u, h⟩ := ⟨_, rfl⟩
          obtain ⟨Y, hY⟩ : ∃ Y, Y = Z.setCell ⟨xb, 3, none⟩ (.int .i64 (l.v + 1)) := ⟨_, rfl⟩
          have hYc : Chg (fun k => k = xb) Z Y := by rw [hY]; exact setCell_chg _ _ _ _
          have hYB : Blk Y xb #[.string ⟨n.toArray⟩, .int .i64 c, .int .i64 rc, .int .i64 (l.v + 1), .int .i64 d, .int .i64 u, .int .i64 h] 86 := by rw [hY]; exact HXZ.out.set 3 _
          have HVX : Hid (VAt Y xb 0 e2) := show VAt Y xb 0 e2 from by rw [he2]; exact ⟨hYB.cell 0, hYB.cell 1, hYB.cell 2, hYB.cell 3, hYB.cell 4, hYB.cell 5, hYB.cell 6⟩
          have HVY : Hid (RVw L rb me N (.slice ao A.length cap) A Y) := show RVw L rb me N (.slice ao A.length cap) A Y from HVZ.out.keep (hYc.block _ HVZ.out.blk.lt HNX.out.1) (fun g hg => hYc.block _ (ownsRow_lt HVZ.out.row hg).2 (HNX.out.2 g hg))
          have y0 : Y.cell? ⟨rb, 0, none⟩ = some (.int .i64 e2.r) := by rw [he2]; exact HVY.out.c0
          have y2 : Y.cell? ⟨rb, 2, none⟩ = some (.slice ao A.length cap) := HVY.out.c2
          have HCW : Hid (Chg (fun _ => False) w Y) := show Chg (fun _ => False) w Y from ⟨(hYc.os).trans HBZ.out.os, (hYc.tape).trans HBZ.out.tape, (hYc.output).trans HBZ.out.output, Nat.le_trans HBZ.out.size hYc.size, fun k hk _ => (hYc.block k (Nat.lt_of_lt_of_le hk HBZ.out.size) (fun e => by have := HXB.out; omega)).trans (HBZ.out.block k hk)⟩
          have HCK : Hid (∀ wa wb : World, Below wa.heap.size wa wb → (fun wq => wq.cell? ⟨rb, 2, none⟩ = some (.slice ao A.length cap) ∧ wq.cell? ⟨rb, 0, none⟩ = some (.int .i64 e2.r) ∧ VAt wq xb 0 e2) wa → (fun wq => wq.cell? ⟨rb, 2, none⟩ = some (.slice ao A.length cap) ∧ wq.cell? ⟨rb, 0, none⟩ = some (.int .i64 e2.r) ∧ VAt wq xb 0 e2) wb) := fun wa wb hb hh => ⟨cell_below hb hh.1, cell_below hb hh.2.1, hh.2.2.keep (hb.block _ hh.2.2.lt)⟩
          have HE2 : Hid (e2 = ⟨me, n, c, rc, l.v + 1, d, u, h⟩) := he2
          have HSW : Hid (w.heap.size ≤ Y.heap.size) := HCW.out.size
          have HWL : Hid (∀ g, (Value.slice ao A.length cap).ownBlock = some g → g < w.heap.size) := fun g hg => (ownsRow_lt HV.out.row hg).2
          go_upto_region 11 with fail
          rw [← hY]
          clear hY hYB he2 hYc fz
          go_wp2_with fail
          rename_i K hK
          try rw [show ∀ a : Act, a.put none undef = a from fun _ => rfl]
          refine wp_region_mix (fun wq => wq.cell? ⟨rb, 2, none⟩ = some (.slice ao A.length cap) ∧ wq.cell? ⟨rb, 0, none⟩ = some (.int .i64 e2.r) ∧ VAt wq xb 0 e2) (fun i => i == 11 || i == 12 || i == 15) 15 (by kernel_rfl) rfl (by kernel_rfl) (by kernel_rfl) (by kernel_rfl) ?_
          refine withFrP (N := 92) rfl ?_
          intro f0 F0 hff
          have e0 : f0 0 = Value.pointer (some ⟨rb, 0, none⟩) := hff 0
          have e13 : f0 13 = Value.pointer (some ⟨xb, 0, none⟩) := hff 13
          clear hff
          have HCC : (fun wq => wq.cell? ⟨rb, 2, none⟩ = some (.slice ao A.length cap) ∧ wq.cell? ⟨rb, 0, none⟩ = some (.int .i64 e2.r) ∧ VAt wq xb 0 e2) (({ Y with drawn := Y.drawn + 1 } : World)) := ⟨y2, y0, HVX.out.keep rfl⟩
          have HC1 : (fun wq => wq.cell? ⟨rb, 2, none⟩ = some (.slice ao A.length cap) ∧ wq.cell? ⟨rb, 0, none⟩ = some (.int .i64 e2.r) ∧ VAt wq xb 0 e2) ((({ Y with drawn := Y.drawn + 1 } : World)).alloc (.cells #[.int .i64 e2.r, .string ⟨e2.n.toArray⟩, .int .i64 e2.c, .int .i64 e2.rc, .int .i64 e2.v, .int .i64 e2.d, .int .i64 e2.u, .int .i64 e2.h] 130)) := HCK.out _ _ ((Below.refl _ _).alloc (Nat.le_refl _) _) HCC
          refine lyp F0 rfl HCC rfl (by omega) (wanted_none rfl) (v := Value.pointer (some ⟨rb, 0, none⟩)) (fun wr hwr => by simp only [execOp, (F0.eval 0 (by omega)).trans (show _ = Value.pointer (some ⟨rb, 0, none⟩) from by simp [upd, e0, e13])]; first | rfl | simp [go_sem]) fun F1 => ?_
          refine lyp F1 rfl HCC rfl (by omega) (wanted_none rfl) (v := Value.pointer (some ⟨rb, 0, none⟩)) (fun wr hwr => by simp only [execOp, (F1.eval 0 (by omega)).trans (show _ = Value.pointer (some ⟨rb, 0, none⟩) from by simp [upd, e0, e13])]; first | rfl | simp [go_sem]) fun F2 => ?_
          refine lyp F2 rfl HCC rfl (by omega) (wanted_none rfl) (v := Value.pointer (some ⟨rb, 0, none⟩)) (fun wr hwr => by simp only [execOp, (F2.eval 78 (by omega)).trans (show _ = Value.pointer (some ⟨rb, 0, none⟩) from by simp [upd, e0, e13])]; simp [go_sem]) fun F3 => ?_
          refine lyp F3 rfl HCC rfl (by omega) (wanted_none rfl) (v := Value.pointer (some ⟨rb, 2, none⟩)) (fun wr hwr => by simp only [execOp, (F3.eval 79 (by omega)).trans (show _ = Value.pointer (some ⟨rb, 0, none⟩) from by simp [upd, e0, e13])]; simp [go_sem]) fun F4 => ?_
          refine lyp F4 rfl HCC rfl (by omega) (wanted_none rfl) (v := Value.slice ao A.length cap) (fun wr hwr => by simp only [execOp, (F4.eval 80 (by omega)).trans (show _ = Value.pointer (some ⟨rb, 2, none⟩) from by simp [upd, e0, e13])]; simp [go_sem, hwr.1]) fun F5 => ?_
          refine lyp F5 rfl HCC rfl (by omega) (wanted_none rfl) (v := Value.pointer (some ⟨rb, 0, none⟩)) (fun wr hwr => by simp only [execOp, (F5.eval 0 (by omega)).trans (show _ = Value.pointer (some ⟨rb, 0, none⟩) from by simp [upd, e0, e13])]; first | rfl | simp [go_sem]) fun F6 => ?_
          refine lyp F6 rfl HCC rfl (by omega) (wanted_none rfl) (v := Value.pointer (some ⟨rb, 0, none⟩)) (fun wr hwr => by simp only [execOp, (F6.eval 82 (by omega)).trans (show _ = Value.pointer (some ⟨rb, 0, none⟩) from by simp [upd, e0, e13])]; simp [go_sem]) fun F7 => ?_
          refine lyp F7 rfl HCC rfl (by omega) (wanted_none rfl) (v := Value.pointer (some ⟨rb, 0, none⟩)) (fun wr hwr => by simp only [execOp, (F7.eval 83 (by omega)).trans (show _ = Value.pointer (some ⟨rb, 0, none⟩) from by simp [upd, e0, e13])]; simp [go_sem]) fun F8 => ?_
          refine lyp F8 rfl HCC rfl (by omega) (wanted_none rfl) (v := Value.int .i64 e2.r) (fun wr hwr => by simp only [execOp, (F8.eval 84 (by omega)).trans (show _ = Value.pointer (some ⟨rb, 0, none⟩) from by simp [upd, e0, e13])]; simp [go_sem, hwr.2.1]) fun F9 => ?_
          refine lyp F9 rfl HCC rfl (by omega) (wanted_none rfl) (v := Value.agg #[.string ⟨e2.n.toArray⟩, .int .i64 e2.c, .int .i64 e2.rc, .int .i64 e2.v, .int .i64 e2.d, .int .i64 e2.u, .int .i64 e2.h]) (fun wr hwr => by simp only [execOp, (F9.eval 13 (by omega)).trans (show _ = Value.pointer (some ⟨xb, 0, none⟩) from by simp [upd, e0, e13])]; simp [go_sem, hwr.2.2.c0, hwr.2.2.c1, hwr.2.2.c2, hwr.2.2.c3, hwr.2.2.c4, hwr.2.2.c5, hwr.2.2.c6]) fun F10 => ?_
          refine lyp F10 rfl HCC rfl (by omega) (wanted_none rfl) (v := Value.agg #[.int .i64 e2.r, .string ⟨e2.n.toArray⟩, .int .i64 e2.c, .int .i64 e2.rc, .int .i64 e2.v, .int .i64 e2.d, .int .i64 e2.u, .int .i64 e2.h]) (fun wr hwr => by simp only [execOp, List.map_toArray, List.map_cons, List.map_nil, (F10.eval 85 (by omega)).trans (show _ = Value.int .i64 e2.r from by simp [upd, e0, e13]), (F10.eval 86 (by omega)).trans (show _ = Value.agg #[.string ⟨e2.n.toArray⟩, .int .i64 e2.c, .int .i64 e2.rc, .int .i64 e2.v, .int .i64 e2.d, .int .i64 e2.u, .int .i64 e2.h] from by simp [upd, e0, e13])]; simp [go_sem]; try rfl) fun F11 => ?_
          refine lep F11 rfl HCC rfl (by omega) (wanted_none rfl) (v := Value.slice (some ⟨Y.heap.size, 0, none⟩) 1 1) (w1 := (({ Y with drawn := Y.drawn + 1 } : World)).alloc (.cells #[.int .i64 e2.r, .string ⟨e2.n.toArray⟩, .int .i64 e2.c, .int .i64 e2.rc, .int .i64 e2.v, .int .i64 e2.d, .int .i64 e2.u, .int .i64 e2.h] 130)) (by simp only [execOp, List.map_toArray, List.map_cons, List.map_nil, (F11.eval 87 (by omega)).trans (show _ = Value.agg #[.int .i64 e2.r, .string ⟨e2.n.toArray⟩, .int .i64 e2.c, .int .i64 e2.rc, .int .i64 e2.v, .int .i64 e2.d, .int .i64 e2.u, .int .i64 e2.h] from by simp [upd, e0, e13])]; simp [go_sem]) fun F12 => ?_
          obtain ⟨ao5, cap5, w5, hrun, hc5, hz5, hf5, hV5, hch5, hat5⟩ := (show RVw L rb me N (.slice ao A.length cap) A (({ Y with drawn := Y.drawn + 1 } : World)) from HVY.out.keep rfl (fun _ _ => rfl)).push HAL.out e2
          have HC5 : (fun wq => wq.cell? ⟨rb, 2, none⟩ = some (.slice ao A.length cap) ∧ wq.cell? ⟨rb, 0, none⟩ = some (.int .i64 e2.r) ∧ VAt wq xb 0 e2) w5 := ⟨hz5, (by have hB := (show RVw L rb me N (.slice ao A.length cap) A ({ Y with drawn := Y.drawn + 1 } : World) from HVY.out.keep rfl (fun _ _ => rfl)).blk; exact (hc5.blk hB (fun hh => by obtain ⟨cu, hcu⟩ := ownsRow_type HVY.out.row hh; exact Blk.ne_t HVY.out.blk (show Blk Y rb cu 130 from hcu) (by decide) rfl)).cell 0 |>.trans (HVY.out.blk.cell 0).symm |>.trans y0), HVX.out.keep (hc5.block xb HVX.out.lt (fun hh => HNX.out.2 _ hh rfl))⟩
          refine lep F12 rfl HC1 rfl (by omega) (wanted_none rfl) (v := Value.slice ao5 (A.length + 1) cap5) (w1 := w5) (by simp only [execOp, resolve, invoke, builtin, List.map_toArray, List.map_cons, List.map_nil, (F12.eval 81 (by omega)).trans (show _ = Value.slice ao A.length cap from by simp [upd, e0, e13]), (F12.eval 88 (by omega)).trans (show _ = Value.slice (some ⟨Y.heap.size, 0, none⟩) 1 1 from by simp [upd, e0, e13])]; simp only [Sem.run_bind, Sem.run_pure, Result.andThen_ok, show _ = _ from hrun _]; try rfl) fun F13 => ?_
          refine lyp F13 rfl HC5 rfl (by omega) (wanted_none rfl) (v := Value.pointer (some ⟨rb, 0, none⟩)) (fun wr hwr => by simp only [execOp, (F13.eval 77 (by omega)).trans (show _ = Value.pointer (some ⟨rb, 0, none⟩) from by simp [upd, e0, e13])]; simp [go_sem]) fun F14 => ?_
          refine lyp F14 rfl HC5 rfl (by omega) (wanted_none rfl) (v := Value.pointer (some ⟨rb, 2, none⟩)) (fun wr hwr => by simp only [execOp, (F14.eval 90 (by omega)).trans (show _ = Value.pointer (some ⟨rb, 0, none⟩) from by simp [upd, e0, e13])]; simp [go_sem]) fun F15 => ?_
          refine lst rfl HC5 rfl (wanted_none rfl) (w1 := w5.setCell ⟨rb, 2, none⟩ (.slice ao5 (A.length + 1) cap5)) (by simp only [execOp, (F15.eval 91 (by omega)).trans (show _ = Value.pointer (some ⟨rb, 2, none⟩) from by simp [upd, e0, e13]), (F15.eval 89 (by omega)).trans (show _ = Value.slice ao5 (A.length + 1) cap5 from by simp [upd, e0, e13])]; simp [go_sem, hf5, hz5]) ?_
          refine ⟨fun h => by omega, ?_⟩
          refine hK _ _ ?_
          clear F0 F1 F2 F3 F4 F5 F6 F7 F8 F9 F10 F11 F12 F13 F14 F15 e0 e13 HCC HC1 HC5 hz5 hf5 hrun hc5
          simp only [Act.put, List.setIfInBounds_toArray, List.set_cons_succ, List.set_cons_zero]
          go_wp2_with fail
          go_ret
          refine ⟨by rw [HCD.out]; rfl, ?_⟩
          rw [HNX2.out, ← HE2.out]
          refine ⟨⟨_, hV5, fun g hg => (hat5 g hg).imp id (fun hh => Nat.le_trans HSW.out hh)⟩, ?_⟩
          exact (HCW.out.mono (fun _ _ hh => hh.elim)).trans (show Chg (fun k => k = rb ∨ (Value.slice ao A.length cap).ownBlock = some k) Y _ from ⟨hch5.os, hch5.tape, hch5.output, hch5.size, hch5.block⟩) (fun j hj hh => hh)
      · have HNX2 : Hid (NX = A ++ [⟨me, n, c, rc, l.v + 1, d, u, h⟩]) := show _ = _ from by rw [HN0.out, if_neg (by simp), if_neg (fun h => hl0 h.1), if_neg (fun h => q0 h.2.1)]
        replace q0 : (l.c == c) = false := by simpa using q0
        clear HC0 HN0
        have fz : Z.frozen? ⟨xb, 3, none⟩ = false := HXZ.out.frozen 3
        obtain ⟨e2, he2⟩ : ∃ e2 : Ent, e2 = ⟨me, n, c, rc, l.v + 1, d, u, h⟩ := ⟨_, rfl⟩
        obtain ⟨Y, hY⟩ : ∃ Y, Y = Z.setCell ⟨xb, 3, none⟩ (.int .i64 (l.v + 1)) := ⟨_, rfl⟩
        have hYc : Chg (fun k => k = xb) Z Y := by rw [hY]; exact setCell_chg _ _ _ _
        have hYB : Blk Y xb #[.string ⟨n.toArray⟩, .int .i64 c, .int .i64 rc, .int .i64 (l.v + 1), .int .i64 d, .int .i64 u, .int .i64 h] 86 := by rw [hY]; exact HXZ.out.set 3 _
        have HVX : Hid (VAt Y xb 0 e2) := show VAt Y xb 0 e2 from by rw [he2]; exact ⟨hYB.cell 0, hYB.cell 1, hYB.cell 2, hYB.cell 3, hYB.cell 4, hYB.cell 5, hYB.cell 6⟩
        have HVY : Hid (RVw L rb me N (.slice ao A.length cap) A Y) := show RVw L rb me N (.slice ao A.length cap) A Y from HVZ.out.keep (hYc.block _ HVZ.out.blk.lt HNX.out.1) (fun g hg => hYc.block _ (ownsRow_lt HVZ.out.row hg).2 (HNX.out.2 g hg))
        have y0 : Y.cell? ⟨rb, 0, none⟩ = some (.int .i64 e2.r) := by rw [he2]; exact HVY.out.c0
        have y2 : Y.cell? ⟨rb, 2, none⟩ = some (.slice ao A.length cap) := HVY.out.c2
        have HCW : Hid (Chg (fun _ => False) w Y) := show Chg (fun _ => False) w Y from ⟨(hYc.os).trans HBZ.out.os, (hYc.tape).trans HBZ.out.tape, (hYc.output).trans HBZ.out.output, Nat.le_trans HBZ.out.size hYc.size, fun k hk _ => (hYc.block k (Nat.lt_of_lt_of_le hk HBZ.out.size) (fun e => by have := HXB.out; omega)).trans (HBZ.out.block k hk)⟩
        have HCK : Hid (∀ wa wb : World, Below wa.heap.size wa wb → (fun wq => wq.cell? ⟨rb, 2, none⟩ = some (.slice ao A.length cap) ∧ wq.cell? ⟨rb, 0, none⟩ = some (.int .i64 e2.r) ∧ VAt wq xb 0 e2) wa → (fun wq => wq.cell? ⟨rb, 2, none⟩ = some (.slice ao A.length cap) ∧ wq.cell? ⟨rb, 0, none⟩ = some (.int .i64 e2.r) ∧ VAt wq xb 0 e2) wb) := fun wa wb hb hh => ⟨cell_below hb hh.1, cell_below hb hh.2.1, hh.2.2.keep (hb.block _ hh.2.2.lt)⟩
        have HE2 : Hid (e2 = ⟨me, n, c, rc, l.v + 1, d, u, h⟩) := he2
        have HSW : Hid (w.heap.size ≤ Y.heap.size) := HCW.out.size
        have HWL : Hid (∀ g, (Value.slice ao A.length cap).ownBlock = some g → g < w.heap.size) := fun g hg => (ownsRow_lt HV.out.row hg).2
        go_upto_region 11 with fail
        rw [← hY]
        clear hY hYB he2 hYc fz
        go_wp2_with fail
        rename_i K hK
        try rw [show ∀ a : Act, a.put none undef = a from fun _ => rfl]
        refine wp_region_mix (fun wq => wq.cell? ⟨rb, 2, none⟩ = some (.slice ao A.length cap) ∧ wq.cell? ⟨rb, 0, none⟩ = some (.int .i64 e2.r) ∧ VAt wq xb 0 e2) (fun i => i == 11 || i == 12 || i == 15) 15 (by kernel_rfl) rfl (by kernel_rfl) (by kernel_rfl) (by kernel_rfl) ?_
        refine withFrP (N := 92) rfl ?_
        intro f0 F0 hff
        have e0 : f0 0 = Value.pointer (some ⟨rb, 0, none⟩) := hff 0
        have e13 : f0 13 = Value.pointer (some ⟨xb, 0, none⟩) := hff 13
        clear hff
        have HCC : (fun wq => wq.cell? ⟨rb, 2, none⟩ = some (.slice ao A.length cap) ∧ wq.cell? ⟨rb, 0, none⟩ = some (.int .i64 e2.r) ∧ VAt wq xb 0 e2) (({ Y with drawn := Y.drawn + 1 } : World)) := ⟨y2, y0, HVX.out.keep rfl⟩
        have HC1 : (fun wq => wq.cell? ⟨rb, 2, none⟩ = some (.slice ao A.length cap) ∧ wq.cell? ⟨rb, 0, none⟩ = some (.int .i64 e2.r) ∧ VAt wq xb 0 e2) ((({ Y with drawn := Y.drawn + 1 } : World)).alloc (.cells #[.int .i64 e2.r, .string ⟨e2.n.toArray⟩, .int .i64 e2.c, .int .i64 e2.rc, .int .i64 e2.v, .int .i64 e2.d, .int .i64 e2.u, .int .i64 e2.h] 130)) := HCK.out _ _ ((Below.refl _ _).alloc (Nat.le_refl _) _) HCC
        refine lyp F0 rfl HCC rfl (by omega) (wanted_none rfl) (v := Value.pointer (some ⟨rb, 0, none⟩)) (fun wr hwr => by simp only [execOp, (F0.eval 0 (by omega)).trans (show _ = Value.pointer (some ⟨rb, 0, none⟩) from by simp [upd, e0, e13])]; first | rfl | simp [go_sem]) fun F1 => ?_
        refine lyp F1 rfl HCC rfl (by omega) (wanted_none rfl) (v := Value.pointer (some ⟨rb, 0, none⟩)) (fun wr hwr => by simp only [execOp, (F1.eval 0 (by omega)).trans (show _ = Value.pointer (some ⟨rb, 0, none⟩) from by simp [upd, e0, e13])]; first | rfl | simp [go_sem]) fun F2 => ?_
        refine lyp F2 rfl HCC rfl (by omega) (wanted_none rfl) (v := Value.pointer (some ⟨rb, 0, none⟩)) (fun wr hwr => by simp only [execOp, (F2.eval 78 (by omega)).trans (show _ = Value.pointer (some ⟨rb, 0, none⟩) from by simp [upd, e0, e13])]; simp [go_sem]) fun F3 => ?_
        refine lyp F3 rfl HCC rfl (by omega) (wanted_none rfl) (v := Value.pointer (some ⟨rb, 2, none⟩)) (fun wr hwr => by simp only [execOp, (F3.eval 79 (by omega)).trans (show _ = Value.pointer (some ⟨rb, 0, none⟩) from by simp [upd, e0, e13])]; simp [go_sem]) fun F4 => ?_
        refine lyp F4 rfl HCC rfl (by omega) (wanted_none rfl) (v := Value.slice ao A.length cap) (fun wr hwr => by simp only [execOp, (F4.eval 80 (by omega)).trans (show _ = Value.pointer (some ⟨rb, 2, none⟩) from by simp [upd, e0, e13])]; simp [go_sem, hwr.1]) fun F5 => ?_
        refine lyp F5 rfl HCC rfl (by omega) (wanted_none rfl) (v := Value.pointer (some ⟨rb, 0, none⟩)) (fun wr hwr => by simp only [execOp, (F5.eval 0 (by omega)).trans (show _ = Value.pointer (some ⟨rb, 0, none⟩) from by simp [upd, e0, e13])]; first | rfl | simp [go_sem]) fun F6 => ?_
        refine lyp F6 rfl HCC rfl (by omega) (wanted_none rfl) (v := Value.pointer (some ⟨rb, 0, none⟩)) (fun wr hwr => by simp only [execOp, (F6.eval 82 (by omega)).trans (show _ = Value.pointer (some ⟨rb, 0, none⟩) from by simp [upd, e0, e13])]; simp [go_sem]) fun F7 => ?_
        refine lyp F7 rfl HCC rfl (by omega) (wanted_none rfl) (v := Value.pointer (some ⟨rb, 0, none⟩)) (fun wr hwr => by simp only [execOp, (F7.eval 83 (by omega)).trans (show _ = Value.pointer (some ⟨rb, 0, none⟩) from by simp [upd, e0, e13])]; simp [go_sem]) fun F8 => ?_
        refine lyp F8 rfl HCC rfl (by omega) (wanted_none rfl) (v := Value.int .i64 e2.r) (fun wr hwr => by simp only [execOp, (F8.eval 84 (by omega)).trans (show _ = Value.pointer (some ⟨rb, 0, none⟩) from by simp [upd, e0, e13])]; simp [go_sem, hwr.2.1]) fun F9 => ?_
        refine lyp F9 rfl HCC rfl (by omega) (wanted_none rfl) (v := Value.agg #[.string ⟨e2.n.toArray⟩, .int .i64 e2.c, .int .i64 e2.rc, .int .i64 e2.v, .int .i64 e2.d, .int .i64 e2.u, .int .i64 e2.h]) (fun wr hwr => by simp only [execOp, (F9.eval 13 (by omega)).trans (show _ = Value.pointer (some ⟨xb, 0, none⟩) from by simp [upd, e0, e13])]; simp [go_sem, hwr.2.2.c0, hwr.2.2.c1, hwr.2.2.c2, hwr.2.2.c3, hwr.2.2.c4, hwr.2.2.c5, hwr.2.2.c6]) fun F10 => ?_
        refine lyp F10 rfl HCC rfl (by omega) (wanted_none rfl) (v := Value.agg #[.int .i64 e2.r, .string ⟨e2.n.toArray⟩, .int .i64 e2.c, .int .i64 e2.rc, .int .i64 e2.v, .int .i64 e2.d, .int .i64 e2.u, .int .i64 e2.h]) (fun wr hwr => by simp only [execOp, List.map_toArray, List.map_cons, List.map_nil, (F10.eval 85 (by omega)).trans (show _ = Value.int .i64 e2.r from by simp [upd, e0, e13]), (F10.eval 86 (by omega)).trans (show _ = Value.agg #[.string ⟨e2.n.toArray⟩, .int .i64 e2.c, .int .i64 e2.rc, .int .i64 e2.v, .int .i64 e2.d, .int .i64 e2.u, .int .i64 e2.h] from by simp [upd, e0, e13])]; simp [go_sem]; try rfl) fun F11 => ?_
        refine lep F11 rfl HCC rfl (by omega) (wanted_none rfl) (v := Value.slice (some ⟨Y.heap.size, 0, none⟩) 1 1) (w1 := (({ Y with drawn := Y.drawn + 1 } : World)).alloc (.cells #[.int .i64 e2.r, .string ⟨e2.n.toArray⟩, .int .i64 e2.c, .int .i64 e2.rc, .int .i64 e2.v, .int .i64 e2.d, .int .i64 e2.u, .int .i64 e2.h] 130)) (by simp only [execOp, List.map_toArray, List.map_cons, List.map_nil, (F11.eval 87 (by omega)).trans (show _ = Value.agg #[.int .i64 e2.r, .string ⟨e2.n.toArray⟩, .int .i64 e2.c, .int .i64 e2.rc, .int .i64 e2.v, .int .i64 e2.d, .int .i64 e2.u, .int .i64 e2.h] from by simp [upd, e0, e13])]; simp [go_sem]) fun F12 => ?_
        obtain ⟨ao5, cap5, w5, hrun, hc5, hz5, hf5, hV5, hch5, hat5⟩ := (show RVw L rb me N (.slice ao A.length cap) A (({ Y with drawn := Y.drawn + 1 } : World)) from HVY.out.keep rfl (fun _ _ => rfl)).push HAL.out e2
        have HC5 : (fun wq => wq.cell? ⟨rb, 2, none⟩ = some (.slice ao A.length cap) ∧ wq.cell? ⟨rb, 0, none⟩ = some (.int .i64 e2.r) ∧ VAt wq xb 0 e2) w5 := ⟨hz5, (by have hB := (show RVw L rb me N (.slice ao A.length cap) A ({ Y with drawn := Y.drawn + 1 } : World) from HVY.out.keep rfl (fun _ _ => rfl)).blk; exact (hc5.blk hB (fun hh => by obtain ⟨cu, hcu⟩ := ownsRow_type HVY.out.row hh; exact Blk.ne_t HVY.out.blk (show Blk Y rb cu 130 from hcu) (by decide) rfl)).cell 0 |>.trans (HVY.out.blk.cell 0).symm |>.trans y0), HVX.out.keep (hc5.block xb HVX.out.lt (fun hh => HNX.out.2 _ hh rfl))⟩
        refine lep F12 rfl HC1 rfl (by omega) (wanted_none rfl) (v := Value.slice ao5 (A.length + 1) cap5) (w1 := w5) (by simp only [execOp, resolve, invoke, builtin, List.map_toArray, List.map_cons, List.map_nil, (F12.eval 81 (by omega)).trans (show _ = Value.slice ao A.length cap from by simp [upd, e0, e13]), (F12.eval 88 (by omega)).trans (show _ = Value.slice (some ⟨Y.heap.size, 0, none⟩) 1 1 from by simp [upd, e0, e13])]; simp only [Sem.run_bind, Sem.run_pure, Result.andThen_ok, show _ = _ from hrun _]; try rfl) fun F13 => ?_
        refine lyp F13 rfl HC5 rfl (by omega) (wanted_none rfl) (v := Value.pointer (some ⟨rb, 0, none⟩)) (fun wr hwr => by simp only [execOp, (F13.eval 77 (by omega)).trans (show _ = Value.pointer (some ⟨rb, 0, none⟩) from by simp [upd, e0, e13])]; simp [go_sem]) fun F14 => ?_
        refine lyp F14 rfl HC5 rfl (by omega) (wanted_none rfl) (v := Value.pointer (some ⟨rb, 2, none⟩)) (fun wr hwr => by simp only [execOp, (F14.eval 90 (by omega)).trans (show _ = Value.pointer (some ⟨rb, 0, none⟩) from by simp [upd, e0, e13])]; simp [go_sem]) fun F15 => ?_
        refine lst rfl HC5 rfl (wanted_none rfl) (w1 := w5.setCell ⟨rb, 2, none⟩ (.slice ao5 (A.length + 1) cap5)) (by simp only [execOp, (F15.eval 91 (by omega)).trans (show _ = Value.pointer (some ⟨rb, 2, none⟩) from by simp [upd, e0, e13]), (F15.eval 89 (by omega)).trans (show _ = Value.slice ao5 (A.length + 1) cap5 from by simp [upd, e0, e13])]; simp [go_sem, hf5, hz5]) ?_
        refine ⟨fun h => by omega, ?_⟩
        refine hK _ _ ?_
        clear F0 F1 F2 F3 F4 F5 F6 F7 F8 F9 F10 F11 F12 F13 F14 F15 e0 e13 HCC HC1 HC5 hz5 hf5 hrun hc5
        simp only [Act.put, List.setIfInBounds_toArray, List.set_cons_succ, List.set_cons_zero]
        go_wp2_with fail
        go_ret
        refine ⟨by rw [HCD.out]; rfl, ?_⟩
        rw [HNX2.out, ← HE2.out]
        refine ⟨⟨_, hV5, fun g hg => (hat5 g hg).imp id (fun hh => Nat.le_trans HSW.out hh)⟩, ?_⟩
        exact (HCW.out.mono (fun _ _ hh => hh.elim)).trans (show Chg (fun k => k = rb ∨ (Value.slice ao A.length cap).ownBlock = some k) Y _ from ⟨hch5.os, hch5.tape, hch5.output, hch5.size, hch5.block⟩) (fun j hj hh => hh)
end Go.Proofs.YtjmbhaoehfdpoaaDoor
namespace Go.Proofs.YtjmbhaoehfdpoaaDoor
open Go.RowKit Go.PlainAid Go.MapKept
set_option linter.unusedVariables false
set_option linter.unusedSimpArgs false
def rfresh (r : Int) (A es : List Ent) : Nat := es.countP fun e => (lastD r e.n A).v == 0
theorem rfresh_step {r : Int} {A es : List Ent} {q : Nat} {e : Ent} (h : es[q]? = some e) : rfresh r A (es.take (q + 1)) = rfresh r A (es.take q) + if (lastD r e.n A).v = 0 then 1 else 0 := by
  rw [take_snoc h]
  simp [rfresh, List.countP_cons]
theorem rfresh_le (r : Int) (A es : List Ent) : rfresh r A es ≤ es.length := List.countP_le_length
def rtakeStep (r : Int) (acc : List Ent × Nat) (e : Ent) : List Ent × Nat := if (lastD r e.n acc.1).v < e.v then (acc.1 ++ [{ e with r := r }], acc.2 + 1) else acc
def rtakeF (r : Int) (A es : List Ent) : List Ent × Nat := es.foldl (rtakeStep r) (A, 0)
theorem rtakeF_more {r : Int} {A es : List Ent} {q : Nat} {e : Ent} (h : es[q]? = some e) : rtakeF r A (es.take (q + 1)) = rtakeStep r (rtakeF r A (es.take q)) e := by
  unfold rtakeF
  rw [take_snoc h, List.foldl_append]
  rfl
theorem rtakeF_le (r : Int) (A : List Ent) : ∀ (q : Nat) (es : List Ent), (rtakeF r A (es.take q)).2 ≤ q ∧ (rtakeF r A (es.take q)).1.length ≤ A.length + q
  | 0, es => by simp [rtakeF]
  | q + 1, es => by
    have ih := rtakeF_le r A q es
    cases h : es[q]? with
    | none =>
      rw [List.take_add_one, h]
      simp only [Option.toList_none, List.append_nil]
      omega
    | some e =>
      rw [rtakeF_more h]
      unfold rtakeStep
      split
      · simp; omega
      · omega
def rtakeCode (me n r : Int) (A es : List Ent) : Int := if r < 0 ∨ n ≤ r ∨ r = me then 3 else if 64 < es.length then 2 else if dgB es = false then 1 else if 64 < (nmsL r A).length + rfresh r A es then 102 else 0
def rtakeNext (me n r : Int) (A es : List Ent) : List Ent × Nat := if rtakeCode me n r A es = 0 then rtakeF r A es else (A, 0)
theorem VAt.re {w : World} {b o : Nat} {e : Ent} (h : VAt w b o e) (r : Int) : VAt w b o { e with r := r } := ⟨h.c0, h.c1, h.c2, h.c3, h.c4, h.c5, h.c6⟩
/-- The document's views within a call that began with v0 at w. -/
structure RStep (L rb : Nat) (me N : Int) (v0 v : Value) (A : List Ent) (w wr : World) : Prop where
  vw : RVw L rb me N v A wr
  chg : Chg (fun k => k = rb ∨ v0.ownBlock = some k) w wr
  at' : ∀ g, v.ownBlock = some g → v0.ownBlock = some g ∨ w.heap.size ≤ g
theorem RStep.more {L rb : Nat} {me N : Int} {v0 v : Value} {A : List Ent} {w wr w2 : World} (h : RStep L rb me N v0 v A w wr) (hb : Below wr.heap.size wr w2) : RStep L rb me N v0 v A w w2 := ⟨h.vw.more hb, h.chg.trans (Chg.ofBelow (fun _ => False) hb) (fun _ _ e => e.elim), h.at'⟩
theorem RStep.next {L rb : Nat} {me N : Int} {v0 v v' : Value} {A A' : List Ent} {w wr w2 : World} (h : RStep L rb me N v0 v A w wr) (hV : RVw L rb me N v' A' w2) (hc : Chg (fun k => k = rb ∨ v.ownBlock = some k) wr w2) (ha : ∀ g, v'.ownBlock = some g → v.ownBlock = some g ∨ wr.heap.size ≤ g) : RStep L rb me N v0 v' A' w w2 := by
  refine ⟨hV, h.chg.trans hc (fun j hj hb => ?_), fun g hg => ?_⟩
  · rcases hb with hb | hb
    · exact Or.inl hb
    · rcases h.at' j hb with h1 | h1
      · exact Or.inr h1
      · omega
  · rcases ha g hg with h1 | h1
    · exact h.at' g h1
    · exact Or.inr (Nat.le_trans h.chg.size h1)
theorem RStep.post {L rb : Nat} {me N : Int} {v0 v : Value} {A : List Ent} {w wr : World} (h : RStep L rb me N v0 v A w wr) : RPost L rb me N v0 A w wr := ⟨⟨v, h.vw, h.at'⟩, h.chg⟩
theorem RStep.from {L rb : Nat} {me N : Int} {v0 v : Value} {A es : List Ent} {w wr : World} (h : RStep L rb me N v0 v A w wr) {lb lo : Nat} (hlt : lb < w.heap.size) (h1 : lb ≠ rb) (h2 : v0.ownBlock ≠ some lb) {i : Nat} {e : Ent} (he : VAt w lb (lo + i * 7) e) : VAt wr lb (lo + i * 7) e := he.keep (h.chg.block lb hlt (fun hh => hh.elim h1 h2))
set_option maxRecDepth 100000 in
set_option maxHeartbeats 6400000 in
theorem rtake_any {L rb : Nat} {me N : Int} {v0 : Value} {A0 : List Ent} (r : Int) (la : Option Addr) (KK lcap : Nat) (es : List Ent) (w : World) (hV : RVw L rb me N v0 A0 w) (hA : A0.length ≤ 90000) (hl : es.length = KK) (hK : KK ≤ maxLen) (hf : FromV w la es) (hs : ∀ e ∈ es, e.sane) (hfm : 0 < KK → ∀ b off, la = some ⟨b, off, none⟩ → b ≠ rb ∧ v0.ownBlock ≠ some b) :
    Calls Tryd.prog 56 #[.pointer (some ⟨rb, 0, none⟩), .int .i64 r, .slice la KK lcap] w fun q w' => q = .returned (.tuple #[.int .i64 ((rtakeNext me N r A0 es).2 : Nat), .int .i64 (rtakeCode me N r A0 es)]) ∧ RPost L rb me N v0 (rtakeNext me N r A0 es).1 w w' := by
  have k0 := hV.c0
  have k1 := hV.c1
  have hmax : KK ≤ 9223372036854775807 := by unfold maxLen at hK; omega
  have HL : Hid (es.length = KK) := hl
  have HF : Hid (FromV w la es) := hf
  have HS : Hid (∀ e ∈ es, e.sane) := hs
  have HV : Hid (RVw L rb me N v0 A0 w) := hV
  have HFM : Hid (0 < KK → ∀ b off, la = some ⟨b, off, none⟩ → b ≠ rb ∧ v0.ownBlock ≠ some b) := hfm
  have HC0 : Hid (rtakeCode me N r A0 es = if r < 0 ∨ N ≤ r ∨ r = me then 3 else if 64 < KK then 2 else if dgB es = false then 1 else if 64 < (nmsL r A0).length + rfresh r A0 es then 102 else 0) := show _ = _ from by rw [← hl]; rfl
  have HN0 : Hid (rtakeNext me N r A0 es = if rtakeCode me N r A0 es = 0 then rtakeF r A0 es else (A0, 0)) := rfl
  generalize rtakeCode me N r A0 es = CD at *
  generalize rtakeNext me N r A0 es = NX at *
  have HST : Hid (∀ W, Below w.heap.size w W → RPost L rb me N v0 A0 w W) := fun W hb => RPost.stay hV hb
  clear hV hf hs hfm hl hK
  by_cases c1 : r < 0
  · have HCD : Hid (CD = 3) := show _ = _ from by rw [HC0.out, if_pos (Or.inl c1)]
    have HNX : Hid (NX = (A0, 0)) := show _ = _ from by rw [HN0.out, HCD.out]; rfl
    clear HC0 HN0
    go_enter Tryd.func56, Tryd.ntmps56
    go_wp2_with fail
    go_ret2
    exact ⟨by rw [HCD.out, HNX.out]; rfl, by rw [HNX.out]; exact HST.out _ (Below.refl _ _)⟩
  by_cases c2 : N ≤ r
  · have HCD : Hid (CD = 3) := show _ = _ from by rw [HC0.out, if_pos (Or.inr (Or.inl c2))]
    have HNX : Hid (NX = (A0, 0)) := show _ = _ from by rw [HN0.out, HCD.out]; rfl
    clear HC0 HN0
    go_enter Tryd.func56, Tryd.ntmps56
    go_wp2_with fail
    go_ret2
    exact ⟨by rw [HCD.out, HNX.out]; rfl, by rw [HNX.out]; exact HST.out _ (Below.refl _ _)⟩
  by_cases c3 : r = me
  · have HCD : Hid (CD = 3) := show _ = _ from by rw [HC0.out, if_pos (Or.inr (Or.inr c3))]
    have HNX : Hid (NX = (A0, 0)) := show _ = _ from by rw [HN0.out, HCD.out]; rfl
    have c3b : (r == me) = true := by simpa using c3
    clear HC0 HN0 c3
    go_enter Tryd.func56, Tryd.ntmps56
    go_wp2_with fail
    go_ret2
    exact ⟨by rw [HCD.out, HNX.out]; rfl, by rw [HNX.out]; exact HST.out _ (Below.refl _ _)⟩
  have c3b : (r == me) = false := by simpa using c3
  have hno : ¬ (r < 0 ∨ N ≤ r ∨ r = me) := fun h => h.elim c1 (fun h => h.elim c2 c3)
  rw [if_neg hno] at HC0
  clear c3 hno
  by_cases c4 : 64 < KK
  · have HCD : Hid (CD = 2) := show _ = _ from by rw [HC0.out, if_pos c4]
    have HNX : Hid (NX = (A0, 0)) := show _ = _ from by rw [HN0.out, HCD.out]; rfl
    clear HC0 HN0
    go_enter Tryd.func56, Tryd.ntmps56
    go_wp2_with fail
    go_ret2
    exact ⟨by rw [HCD.out, HNX.out]; rfl, by rw [HNX.out]; exact HST.out _ (Below.refl _ _)⟩
  rw [if_neg c4] at HC0
  go_enter Tryd.func56, Tryd.ntmps56
  go_wp2_with fail
  go_loopw [8, 9] (fun f i wr => ∃ q : Nat, q ≤ KK ∧ i = .int .i64 q ∧ f = .int .i64 (rfresh r A0 (es.take q) : Nat) ∧ Dig (es.take q) ∧ Below w.heap.size w wr) (fun _ i _ => KK - (intOf i).toNat)
  case atStart => exact ⟨0, Nat.zero_le _, rfl, rfl, ⟨by simp, by simp⟩, Below.refl _ _⟩
  case round =>
    obtain ⟨q, hq, rfl, rfl, hpre, hbel⟩ := hrel
    have hfl : rfresh r A0 (es.take q) ≤ 64 := Nat.le_trans (rfresh_le _ _ _) (by rw [List.length_take]; omega)
    by_cases hlt : q < KK
    · have HP : Hid (Dig (es.take q)) := hpre
      obtain ⟨e, he⟩ : ∃ e, es[q]? = some e := ⟨es[q]'(by rw [HL.out]; exact hlt), List.getElem?_eq_getElem _⟩
      have hse := HS.out e (List.mem_of_getElem? he)
      obtain ⟨b, off, hla, hc⟩ := HF.out (by rw [HL.out]; omega)
      subst hla
      have hbs : b < w.heap.size := (hc q e he).lt
      have HFS : Hid (rfresh r A0 (es.take (q + 1)) = rfresh r A0 (es.take q) + if (lastD r e.n A0).v = 0 then 1 else 0) := rfresh_step he
      generalize rfresh r A0 (es.take q) = fr at *
      have HVQ : Hid (∀ W, Below w.heap.size w W → VAt W b (off + q * 7) e) := fun W hb => (hc q e he).keep (hb.block b hbs)
      have HPR : Hid (∀ W, Below w.heap.size w W → ∀ p, 0 < q → es[q - 1]? = some p → W.cell? ⟨b, off + (q - 1) * 7, none⟩ = some (.string ⟨p.n.toArray⟩)) := fun W hb p _ hp => ((hc (q - 1) p hp).keep (hb.block b hbs)).c0
      have HE : Hid (es[q]? = some e) := he
      have HB : Hid (Below w.heap.size w wr) := hbel
      have HRA : Hid (∀ W, Calls Tryd.prog 67 #[viewV e] W fun r w' => r = .returned (.bool e.right) ∧ Below W.heap.size W w') := fun W => rright_any e W hse
      unfold viewV at HRA
      obtain ⟨d0, d1, d2, d3, d4, d5, d6⟩ := HVQ.out wr hbel
      clear he hc hpre hbel hse hbs
      go_wp2_with fail
      refine Calls.mono (HRA.out wr) ?_
      rintro e9 W ⟨rfl, hbW⟩
      have HBW : Hid (Below w.heap.size w W) := HB.out.trans (hbW.mono HB.out.size)
      have HVW : Hid (VAt W b (off + q * 7) e) := HVQ.out W HBW.out
      clear hbW HRA HB d0 d1 d2 d3 d4 d5 d6
      have HREST : Hid (∀ q9 : Nat, True) := fun _ => trivial
      by_cases hrt : e.right = true
      · rw [hrt]
        by_cases hq0 : 0 < q
        · obtain ⟨p, hp⟩ : ∃ p, es[q - 1]? = some p := ⟨es[q - 1]'(by rw [HL.out]; omega), List.getElem?_eq_getElem _⟩
          have HPC := HPR.out W HBW.out p hq0 hp
          have hq1 : q - 1 < KK := by omega
          have hqw : IntKind.i64.wrap ((q : Int) - 1) = ((q - 1 : Nat) : Int) := by rw [IntKind.wrap_i64]; omega
          have HPP : Hid (es[q - 1]? = some p) := hp
          have HRT : Hid (e.right = true) := hrt
          clear hp hrt
          cases hnl : nlt p.n e.n with
          | true =>
            have HLE : (Op.bytesLess e.n p.n || e.n == p.n) = false := by
              have := nlt_tri p.n e.n
              rw [hnl] at this
              simpa [nlt] using this.symm
            have HN : Hid (Dig (es.take (q + 1))) := dig_more HP.out HE.out HRT.out (fun p' _ hp' => by rw [HPP.out] at hp'; cases hp'; exact hnl)
            clear hnl
            go_wp2_with fail
            rename_i K hK
            try rw [show ∀ a : Act, a.put none undef = a from fun _ => rfl]
            refine wp_region_mix (fun wq => wq = ({ W with drawn := W.drawn + 1 } : World)) (fun i => i == 99) 99 (by kernel_rfl) rfl (by kernel_rfl) (by kernel_rfl) (by kernel_rfl) ?_
            refine withFrP (N := 123) rfl ?_
            intro f0 F0 hff
            have e2 : f0 2 = Value.slice (some ⟨b, off, none⟩) KK lcap := hff 2
            have e9 : f0 9 = Value.int .i64 (q : Int) := hff 9
            have e10 : f0 10 = Value.bool true := hff 10
            clear hff
            have HCC : (fun wq => wq = ({ W with drawn := W.drawn + 1 } : World)) (({ W with drawn := W.drawn + 1 } : World)) := rfl
            refine lyp F0 rfl HCC rfl (by omega) (wanted_none rfl) (v := Value.bool true) (fun wr hwr => by simp only [execOp, (F0.eval 10 (by omega)).trans (show _ = Value.bool true from by simp [upd, e2, e9, e10])]; first | rfl | simp [go_sem]) fun F1 => ?_
            refine lyp F1 rfl HCC rfl (by omega) (wanted_none rfl) (v := Value.bool false) (fun wr hwr => by simp only [execOp, (F1.eval 45 (by omega)).trans (show _ = Value.bool true from by simp [upd, e2, e9, e10])]; simp [go_sem, Act.eval]) fun F2 => ?_
            refine lyp F2 rfl HCC rfl (by omega) (wanted_none rfl) (v := Value.bool false) (fun wr hwr => by simp only [execOp, (F2.eval 46 (by omega)).trans (show _ = Value.bool false from by simp [upd, e2, e9, e10])]; first | rfl | simp [go_sem]) fun F3 => ?_
            refine lyp F3 rfl HCC rfl (by omega) (want_yes F3 rfl (e := 47) rfl (by omega) (show _ = Value.bool false from by simp [upd, e2, e9, e10])) (v := Value.int .i64 (q : Int)) (fun wr hwr => by simp only [execOp, (F3.eval 9 (by omega)).trans (show _ = Value.int .i64 (q : Int) from by simp [upd, e2, e9, e10])]; first | rfl | simp [go_sem]) fun F4 => ?_
            refine lyp F4 rfl HCC rfl (by omega) (want_yes F4 rfl (e := 47) rfl (by omega) (show _ = Value.bool false from by simp [upd, e2, e9, e10])) (v := Value.bool true) (fun wr hwr => by simp only [execOp, (F4.eval 48 (by omega)).trans (show _ = Value.int .i64 (q : Int) from by simp [upd, e2, e9, e10])]; simp [go_sem, Act.eval, hq0]) fun F5 => ?_
            refine lyp F5 rfl HCC rfl (by omega) (want_yes F5 rfl (e := 47) rfl (by omega) (show _ = Value.bool false from by simp [upd, e2, e9, e10])) (v := Value.bool true) (fun wr hwr => by simp only [execOp, (F5.eval 49 (by omega)).trans (show _ = Value.bool true from by simp [upd, e2, e9, e10])]; first | rfl | simp [go_sem]) fun F6 => ?_
            refine lyp F6 rfl HCC rfl (by omega) (want_yes F6 rfl (e := 50) rfl (by omega) (show _ = Value.bool true from by simp [upd, e2, e9, e10])) (v := Value.slice (some ⟨b, off, none⟩) KK lcap) (fun wr hwr => by simp only [execOp, (F6.eval 2 (by omega)).trans (show _ = Value.slice (some ⟨b, off, none⟩) KK lcap from by simp [upd, e2, e9, e10])]; first | rfl | simp [go_sem]) fun F7 => ?_
            refine lyp F7 rfl HCC rfl (by omega) (want_yes F7 rfl (e := 50) rfl (by omega) (show _ = Value.bool true from by simp [upd, e2, e9, e10])) (v := Value.int .i64 (q : Int)) (fun wr hwr => by simp only [execOp, (F7.eval 9 (by omega)).trans (show _ = Value.int .i64 (q : Int) from by simp [upd, e2, e9, e10])]; first | rfl | simp [go_sem]) fun F8 => ?_
            refine lyp F8 rfl HCC rfl (by omega) (want_yes F8 rfl (e := 50) rfl (by omega) (show _ = Value.bool true from by simp [upd, e2, e9, e10])) (v := Value.pointer (some ⟨b, off + q * 7, none⟩)) (fun wr hwr => by simp only [execOp, (F8.eval 51 (by omega)).trans (show _ = Value.slice (some ⟨b, off, none⟩) KK lcap from by simp [upd, e2, e9, e10]), (F8.eval 52 (by omega)).trans (show _ = Value.int .i64 (q : Int) from by simp [upd, e2, e9, e10])]; simp only [Sem.run_bind, Sem.run_pure, Result.andThen_ok, idx_run 113 86 7 Tryd.underlying113 info46 wr b off KK lcap q hlt]; try rfl) fun F9 => ?_
            refine lyp F9 rfl HCC rfl (by omega) (want_yes F9 rfl (e := 50) rfl (by omega) (show _ = Value.bool true from by simp [upd, e2, e9, e10])) (v := Value.pointer (some ⟨b, off + q * 7, none⟩)) (fun wr hwr => by simp only [execOp, (F9.eval 53 (by omega)).trans (show _ = Value.pointer (some ⟨b, off + q * 7, none⟩) from by simp [upd, e2, e9, e10])]; simp [go_sem]) fun F10 => ?_
            refine lyp F10 rfl HCC rfl (by omega) (want_yes F10 rfl (e := 50) rfl (by omega) (show _ = Value.bool true from by simp [upd, e2, e9, e10])) (v := Value.string ⟨e.n.toArray⟩) (fun wr hwr => by subst hwr; simp only [execOp, (F10.eval 54 (by omega)).trans (show _ = Value.pointer (some ⟨b, off + q * 7, none⟩) from by simp [upd, e2, e9, e10])]; simp [go_sem, show (({ W with drawn := W.drawn + 1 } : World)).cell? ⟨b, off + q * 7, none⟩ = some (.string ⟨e.n.toArray⟩) from HVW.out.c0, HVW.out.c0]) fun F11 => ?_
            refine lyp F11 rfl HCC rfl (by omega) (want_yes F11 rfl (e := 50) rfl (by omega) (show _ = Value.bool true from by simp [upd, e2, e9, e10])) (v := Value.slice (some ⟨b, off, none⟩) KK lcap) (fun wr hwr => by simp only [execOp, (F11.eval 2 (by omega)).trans (show _ = Value.slice (some ⟨b, off, none⟩) KK lcap from by simp [upd, e2, e9, e10])]; first | rfl | simp [go_sem]) fun F12 => ?_
            refine lyp F12 rfl HCC rfl (by omega) (want_yes F12 rfl (e := 50) rfl (by omega) (show _ = Value.bool true from by simp [upd, e2, e9, e10])) (v := Value.int .i64 (q : Int)) (fun wr hwr => by simp only [execOp, (F12.eval 9 (by omega)).trans (show _ = Value.int .i64 (q : Int) from by simp [upd, e2, e9, e10])]; first | rfl | simp [go_sem]) fun F13 => ?_
            refine lyp F13 rfl HCC rfl (by omega) (want_yes F13 rfl (e := 50) rfl (by omega) (show _ = Value.bool true from by simp [upd, e2, e9, e10])) (v := Value.int .i64 ((q - 1 : Nat) : Int)) (fun wr hwr => by simp only [execOp, (F13.eval 57 (by omega)).trans (show _ = Value.int .i64 (q : Int) from by simp [upd, e2, e9, e10])]; simp [go_sem, Act.eval, hqw]) fun F14 => ?_
            refine lyp F14 rfl HCC rfl (by omega) (want_yes F14 rfl (e := 50) rfl (by omega) (show _ = Value.bool true from by simp [upd, e2, e9, e10])) (v := Value.pointer (some ⟨b, off + (q - 1) * 7, none⟩)) (fun wr hwr => by simp only [execOp, (F14.eval 56 (by omega)).trans (show _ = Value.slice (some ⟨b, off, none⟩) KK lcap from by simp [upd, e2, e9, e10]), (F14.eval 58 (by omega)).trans (show _ = Value.int .i64 ((q - 1 : Nat) : Int) from by simp [upd, e2, e9, e10])]; simp only [Sem.run_bind, Sem.run_pure, Result.andThen_ok, idx_run 113 86 7 Tryd.underlying113 info46 wr b off KK lcap (q - 1) hq1]; try rfl) fun F15 => ?_
            refine lyp F15 rfl HCC rfl (by omega) (want_yes F15 rfl (e := 50) rfl (by omega) (show _ = Value.bool true from by simp [upd, e2, e9, e10])) (v := Value.pointer (some ⟨b, off + (q - 1) * 7, none⟩)) (fun wr hwr => by simp only [execOp, (F15.eval 59 (by omega)).trans (show _ = Value.pointer (some ⟨b, off + (q - 1) * 7, none⟩) from by simp [upd, e2, e9, e10])]; simp [go_sem]) fun F16 => ?_
            refine lyp F16 rfl HCC rfl (by omega) (want_yes F16 rfl (e := 50) rfl (by omega) (show _ = Value.bool true from by simp [upd, e2, e9, e10])) (v := Value.string ⟨p.n.toArray⟩) (fun wr hwr => by subst hwr; simp only [execOp, (F16.eval 60 (by omega)).trans (show _ = Value.pointer (some ⟨b, off + (q - 1) * 7, none⟩) from by simp [upd, e2, e9, e10])]; simp [go_sem, show (({ W with drawn := W.drawn + 1 } : World)).cell? ⟨b, off + (q - 1) * 7, none⟩ = some (.string ⟨p.n.toArray⟩) from HPC, HPC]) fun F17 => ?_
            refine lyp F17 rfl HCC rfl (by omega) (want_yes F17 rfl (e := 50) rfl (by omega) (show _ = Value.bool true from by simp [upd, e2, e9, e10])) (v := Value.bool false) (fun wr hwr => by simp only [execOp, (F17.eval 55 (by omega)).trans (show _ = Value.string ⟨e.n.toArray⟩ from by simp [upd, e2, e9, e10]), (F17.eval 61 (by omega)).trans (show _ = Value.string ⟨p.n.toArray⟩ from by simp [upd, e2, e9, e10])]; simp [go_sem, Act.eval, HLE]) fun F18 => ?_
            refine lyp F18 rfl HCC rfl (by omega) (want_yes F18 rfl (e := 47) rfl (by omega) (show _ = Value.bool false from by simp [upd, e2, e9, e10])) (v := Value.bool false) (fun wr hwr => by simp only [execOp, (F18.eval 50 (by omega)).trans (show _ = Value.bool true from by simp [upd, e2, e9, e10]), (F18.eval 62 (by omega)).trans (show _ = Value.bool false from by simp [upd, e2, e9, e10])]; simp [go_sem, Act.eval]) fun F19 => ?_
            refine lyp F19 rfl HCC rfl (by omega) (wanted_none rfl) (v := Value.bool false) (fun wr hwr => by simp only [execOp, (F19.eval 47 (by omega)).trans (show _ = Value.bool false from by simp [upd, e2, e9, e10]), (F19.eval 63 (by omega)).trans (show _ = Value.bool false from by simp [upd, e2, e9, e10])]; simp [go_sem, Act.eval]) fun F20 => ?_
            refine ⟨fun _ => HCC, ?_⟩
            refine hK _ _ ?_
            clear F0 F1 F2 F3 F4 F5 F6 F7 F8 F9 F10 F11 F12 F13 F14 F15 F16 F17 F18 F19 F20 e2 e9 e10 HCC
            simp only [Act.put, List.setIfInBounds_toArray, List.set_cons_succ, List.set_cons_zero]
            clear HLE HPC hqw hq0
            obtain ⟨W2, hW2⟩ : ∃ W2 : World, W2 = ({ W with drawn := W.drawn + 1 } : World) := ⟨_, rfl⟩
            have HB2 : Hid (Below w.heap.size w W2) := show Below w.heap.size w W2 from by rw [hW2]; exact below_drewN HBW.out 1
            have g0 : W2.cell? ⟨b, off + q * 7, none⟩ = some (.string ⟨e.n.toArray⟩) := by rw [hW2]; exact HVW.out.c0
            have HLS : Hid _ := rlast_any r e.n W2 (HV.out.more HB2.out) (by omega)
            rw [← hW2]
            clear hW2 HBW HVW
            generalize lastD r e.n A0 = x0 at *
            have hf3 := fld3 x0
            unfold viewV at HLS hf3
            go_wp2_with fail
            refine Calls.mono HLS.out ?_
            rintro e9 W3 ⟨rfl, hb3⟩
            have HB3 : Hid (Below w.heap.size w W3) := HB2.out.trans (hb3.mono HB2.out.size)
            clear hb3 HLS HB2 g0
            by_cases hx0 : x0.v = 0
            · have hx0b : (x0.v == 0) = true := by simpa using hx0
              have HF1 : Hid (rfresh r A0 (es.take (q + 1)) = fr + 1) := show _ = _ from by rw [HFS.out, if_pos hx0]
              have hw2 : IntKind.i64.wrap ((fr : Int) + 1) = (fr : Int) + 1 := by rw [IntKind.wrap_i64]; omega
              clear hx0 HFS
              go_wp2_with fail
              go_roundw
              case rel => exact ⟨q + 1, by omega, by go_num, by rw [HF1.out]; go_num, HN.out, HB3.out⟩
              case measure => simp [intOf]; omega
            · have hx0b : (x0.v == 0) = false := by simpa using hx0
              have HF1 : Hid (rfresh r A0 (es.take (q + 1)) = fr) := show _ = _ from by rw [HFS.out, if_neg hx0]; rfl
              clear hx0 HFS
              go_wp2_with fail
              go_roundw
              case rel => exact ⟨q + 1, by omega, by go_num, by rw [HF1.out], HN.out, HB3.out⟩
              case measure => simp [intOf]; omega
          | false =>
            have HLE : (Op.bytesLess e.n p.n || e.n == p.n) = true := by
              have := nlt_tri p.n e.n
              rw [hnl] at this
              cases hh : (Op.bytesLess e.n p.n || e.n == p.n)
              · unfold nlt at this; rw [hh] at this; cases this
              · rfl
            have HCD : Hid (CD = 1) := show _ = _ from by rw [HC0.out, if_pos (dgB_not (dig_not2 HE.out hq0 HPP.out hnl))]
            have HNX : Hid (NX = (A0, 0)) := show _ = _ from by rw [HN0.out, HCD.out]; rfl
            clear hnl HC0 HN0
            go_wp2_with fail
            rename_i K hK
            try rw [show ∀ a : Act, a.put none undef = a from fun _ => rfl]
            refine wp_region_mix (fun wq => wq = ({ W with drawn := W.drawn + 1 } : World)) (fun i => i == 99) 99 (by kernel_rfl) rfl (by kernel_rfl) (by kernel_rfl) (by kernel_rfl) ?_
            refine withFrP (N := 123) rfl ?_
            intro f0 F0 hff
            have e2 : f0 2 = Value.slice (some ⟨b, off, none⟩) KK lcap := hff 2
            have e9 : f0 9 = Value.int .i64 (q : Int) := hff 9
            have e10 : f0 10 = Value.bool true := hff 10
            clear hff
            have HCC : (fun wq => wq = ({ W with drawn := W.drawn + 1 } : World)) (({ W with drawn := W.drawn + 1 } : World)) := rfl
            refine lyp F0 rfl HCC rfl (by omega) (wanted_none rfl) (v := Value.bool true) (fun wr hwr => by simp only [execOp, (F0.eval 10 (by omega)).trans (show _ = Value.bool true from by simp [upd, e2, e9, e10])]; first | rfl | simp [go_sem]) fun F1 => ?_
            refine lyp F1 rfl HCC rfl (by omega) (wanted_none rfl) (v := Value.bool false) (fun wr hwr => by simp only [execOp, (F1.eval 45 (by omega)).trans (show _ = Value.bool true from by simp [upd, e2, e9, e10])]; simp [go_sem, Act.eval]) fun F2 => ?_
            refine lyp F2 rfl HCC rfl (by omega) (wanted_none rfl) (v := Value.bool false) (fun wr hwr => by simp only [execOp, (F2.eval 46 (by omega)).trans (show _ = Value.bool false from by simp [upd, e2, e9, e10])]; first | rfl | simp [go_sem]) fun F3 => ?_
            refine lyp F3 rfl HCC rfl (by omega) (want_yes F3 rfl (e := 47) rfl (by omega) (show _ = Value.bool false from by simp [upd, e2, e9, e10])) (v := Value.int .i64 (q : Int)) (fun wr hwr => by simp only [execOp, (F3.eval 9 (by omega)).trans (show _ = Value.int .i64 (q : Int) from by simp [upd, e2, e9, e10])]; first | rfl | simp [go_sem]) fun F4 => ?_
            refine lyp F4 rfl HCC rfl (by omega) (want_yes F4 rfl (e := 47) rfl (by omega) (show _ = Value.bool false from by simp [upd, e2, e9, e10])) (v := Value.bool true) (fun wr hwr => by simp only [execOp, (F4.eval 48 (by omega)).trans (show _ = Value.int .i64 (q : Int) from by simp [upd, e2, e9, e10])]; simp [go_sem, Act.eval, hq0]) fun F5 => ?_
            refine lyp F5 rfl HCC rfl (by omega) (want_yes F5 rfl (e := 47) rfl (by omega) (show _ = Value.bool false from by simp [upd, e2, e9, e10])) (v := Value.bool true) (fun wr hwr => by simp only [execOp, (F5.eval 49 (by omega)).trans (show _ = Value.bool true from by simp [upd, e2, e9, e10])]; first | rfl | simp [go_sem]) fun F6 => ?_
            refine lyp F6 rfl HCC rfl (by omega) (want_yes F6 rfl (e := 50) rfl (by omega) (show _ = Value.bool true from by simp [upd, e2, e9, e10])) (v := Value.slice (some ⟨b, off, none⟩) KK lcap) (fun wr hwr => by simp only [execOp, (F6.eval 2 (by omega)).trans (show _ = Value.slice (some ⟨b, off, none⟩) KK lcap from by simp [upd, e2, e9, e10])]; first | rfl | simp [go_sem]) fun F7 => ?_
            refine lyp F7 rfl HCC rfl (by omega) (want_yes F7 rfl (e := 50) rfl (by omega) (show _ = Value.bool true from by simp [upd, e2, e9, e10])) (v := Value.int .i64 (q : Int)) (fun wr hwr => by simp only [execOp, (F7.eval 9 (by omega)).trans (show _ = Value.int .i64 (q : Int) from by simp [upd, e2, e9, e10])]; first | rfl | simp [go_sem]) fun F8 => ?_
            refine lyp F8 rfl HCC rfl (by omega) (want_yes F8 rfl (e := 50) rfl (by omega) (show _ = Value.bool true from by simp [upd, e2, e9, e10])) (v := Value.pointer (some ⟨b, off + q * 7, none⟩)) (fun wr hwr => by simp only [execOp, (F8.eval 51 (by omega)).trans (show _ = Value.slice (some ⟨b, off, none⟩) KK lcap from by simp [upd, e2, e9, e10]), (F8.eval 52 (by omega)).trans (show _ = Value.int .i64 (q : Int) from by simp [upd, e2, e9, e10])]; simp only [Sem.run_bind, Sem.run_pure, Result.andThen_ok, idx_run 113 86 7 Tryd.underlying113 info46 wr b off KK lcap q hlt]; try rfl) fun F9 => ?_
            refine lyp F9 rfl HCC rfl (by omega) (want_yes F9 rfl (e := 50) rfl (by omega) (show _ = Value.bool true from by simp [upd, e2, e9, e10])) (v := Value.pointer (some ⟨b, off + q * 7, none⟩)) (fun wr hwr => by simp only [execOp, (F9.eval 53 (by omega)).trans (show _ = Value.pointer (some ⟨b, off + q * 7, none⟩) from by simp [upd, e2, e9, e10])]; simp [go_sem]) fun F10 => ?_
            refine lyp F10 rfl HCC rfl (by omega) (want_yes F10 rfl (e := 50) rfl (by omega) (show _ = Value.bool true from by simp [upd, e2, e9, e10])) (v := Value.string ⟨e.n.toArray⟩) (fun wr hwr => by subst hwr; simp only [execOp, (F10.eval 54 (by omega)).trans (show _ = Value.pointer (some ⟨b, off + q * 7, none⟩) from by simp [upd, e2, e9, e10])]; simp [go_sem, show (({ W with drawn := W.drawn + 1 } : World)).cell? ⟨b, off + q * 7, none⟩ = some (.string ⟨e.n.toArray⟩) from HVW.out.c0, HVW.out.c0]) fun F11 => ?_
            refine lyp F11 rfl HCC rfl (by omega) (want_yes F11 rfl (e := 50) rfl (by omega) (show _ = Value.bool true from by simp [upd, e2, e9, e10])) (v := Value.slice (some ⟨b, off, none⟩) KK lcap) (fun wr hwr => by simp only [execOp, (F11.eval 2 (by omega)).trans (show _ = Value.slice (some ⟨b, off, none⟩) KK lcap from by simp [upd, e2, e9, e10])]; first | rfl | simp [go_sem]) fun F12 => ?_
            refine lyp F12 rfl HCC rfl (by omega) (want_yes F12 rfl (e := 50) rfl (by omega) (show _ = Value.bool true from by simp [upd, e2, e9, e10])) (v := Value.int .i64 (q : Int)) (fun wr hwr => by simp only [execOp, (F12.eval 9 (by omega)).trans (show _ = Value.int .i64 (q : Int) from by simp [upd, e2, e9, e10])]; first | rfl | simp [go_sem]) fun F13 => ?_
            refine lyp F13 rfl HCC rfl (by omega) (want_yes F13 rfl (e := 50) rfl (by omega) (show _ = Value.bool true from by simp [upd, e2, e9, e10])) (v := Value.int .i64 ((q - 1 : Nat) : Int)) (fun wr hwr => by simp only [execOp, (F13.eval 57 (by omega)).trans (show _ = Value.int .i64 (q : Int) from by simp [upd, e2, e9, e10])]; simp [go_sem, Act.eval, hqw]) fun F14 => ?_
            refine lyp F14 rfl HCC rfl (by omega) (want_yes F14 rfl (e := 50) rfl (by omega) (show _ = Value.bool true from by simp [upd, e2, e9, e10])) (v := Value.pointer (some ⟨b, off + (q - 1) * 7, none⟩)) (fun wr hwr => by simp only [execOp, (F14.eval 56 (by omega)).trans (show _ = Value.slice (some ⟨b, off, none⟩) KK lcap from by simp [upd, e2, e9, e10]), (F14.eval 58 (by omega)).trans (show _ = Value.int .i64 ((q - 1 : Nat) : Int) from by simp [upd, e2, e9, e10])]; simp only [Sem.run_bind, Sem.run_pure, Result.andThen_ok, idx_run 113 86 7 Tryd.underlying113 info46 wr b off KK lcap (q - 1) hq1]; try rfl) fun F15 => ?_
            refine lyp F15 rfl HCC rfl (by omega) (want_yes F15 rfl (e := 50) rfl (by omega) (show _ = Value.bool true from by simp [upd, e2, e9, e10])) (v := Value.pointer (some ⟨b, off + (q - 1) * 7, none⟩)) (fun wr hwr => by simp only [execOp, (F15.eval 59 (by omega)).trans (show _ = Value.pointer (some ⟨b, off + (q - 1) * 7, none⟩) from by simp [upd, e2, e9, e10])]; simp [go_sem]) fun F16 => ?_
            refine lyp F16 rfl HCC rfl (by omega) (want_yes F16 rfl (e := 50) rfl (by omega) (show _ = Value.bool true from by simp [upd, e2, e9, e10])) (v := Value.string ⟨p.n.toArray⟩) (fun wr hwr => by subst hwr; simp only [execOp, (F16.eval 60 (by omega)).trans (show _ = Value.pointer (some ⟨b, off + (q - 1) * 7, none⟩) from by simp [upd, e2, e9, e10])]; simp [go_sem, show (({ W with drawn := W.drawn + 1 } : World)).cell? ⟨b, off + (q - 1) * 7, none⟩ = some (.string ⟨p.n.toArray⟩) from HPC, HPC]) fun F17 => ?_
            refine lyp F17 rfl HCC rfl (by omega) (want_yes F17 rfl (e := 50) rfl (by omega) (show _ = Value.bool true from by simp [upd, e2, e9, e10])) (v := Value.bool true) (fun wr hwr => by simp only [execOp, (F17.eval 55 (by omega)).trans (show _ = Value.string ⟨e.n.toArray⟩ from by simp [upd, e2, e9, e10]), (F17.eval 61 (by omega)).trans (show _ = Value.string ⟨p.n.toArray⟩ from by simp [upd, e2, e9, e10])]; simp [go_sem, Act.eval, HLE]) fun F18 => ?_
            refine lyp F18 rfl HCC rfl (by omega) (want_yes F18 rfl (e := 47) rfl (by omega) (show _ = Value.bool false from by simp [upd, e2, e9, e10])) (v := Value.bool true) (fun wr hwr => by simp only [execOp, (F18.eval 50 (by omega)).trans (show _ = Value.bool true from by simp [upd, e2, e9, e10]), (F18.eval 62 (by omega)).trans (show _ = Value.bool true from by simp [upd, e2, e9, e10])]; simp [go_sem, Act.eval]) fun F19 => ?_
            refine lyp F19 rfl HCC rfl (by omega) (wanted_none rfl) (v := Value.bool true) (fun wr hwr => by simp only [execOp, (F19.eval 47 (by omega)).trans (show _ = Value.bool false from by simp [upd, e2, e9, e10]), (F19.eval 63 (by omega)).trans (show _ = Value.bool true from by simp [upd, e2, e9, e10])]; simp [go_sem, Act.eval]) fun F20 => ?_
            refine ⟨fun _ => HCC, ?_⟩
            refine hK _ _ ?_
            clear F0 F1 F2 F3 F4 F5 F6 F7 F8 F9 F10 F11 F12 F13 F14 F15 F16 F17 F18 F19 F20 e2 e9 e10 HCC
            simp only [Act.put, List.setIfInBounds_toArray, List.set_cons_succ, List.set_cons_zero]
            clear HLE HPC hqw hq0
            go_wp2_with fail
            go_ret2
            exact ⟨by rw [HCD.out, HNX.out]; rfl, by rw [HNX.out]; exact HST.out _ (below_drewN HBW.out 1)⟩
        · have HRT : Hid (e.right = true) := hrt
          obtain rfl : q = 0 := by omega
          have HN : Hid (Dig (es.take (0 + 1))) := dig_more HP.out HE.out HRT.out (fun p' h0 _ => absurd h0 hq0)
          clear hrt hq0
          go_wp2_with fail
          rename_i K hK
          try rw [show ∀ a : Act, a.put none undef = a from fun _ => rfl]
          refine wp_region_mix (fun wq => wq = ({ W with drawn := W.drawn + 1 } : World)) (fun i => i == 99) 99 (by kernel_rfl) rfl (by kernel_rfl) (by kernel_rfl) (by kernel_rfl) ?_
          refine withFrP (N := 123) rfl ?_
          intro f0 F0 hff
          have e2 : f0 2 = Value.slice (some ⟨b, off, none⟩) KK lcap := hff 2
          have e9 : f0 9 = Value.int .i64 0 := hff 9
          have e10 : f0 10 = Value.bool true := hff 10
          clear hff
          have HCC : (fun wq => wq = ({ W with drawn := W.drawn + 1 } : World)) (({ W with drawn := W.drawn + 1 } : World)) := rfl
          refine lyp F0 rfl HCC rfl (by omega) (wanted_none rfl) (v := Value.bool true) (fun wr hwr => by simp only [execOp, (F0.eval 10 (by omega)).trans (show _ = Value.bool true from by simp [upd, e2, e9, e10])]; first | rfl | simp [go_sem]) fun F1 => ?_
          refine lyp F1 rfl HCC rfl (by omega) (wanted_none rfl) (v := Value.bool false) (fun wr hwr => by simp only [execOp, (F1.eval 45 (by omega)).trans (show _ = Value.bool true from by simp [upd, e2, e9, e10])]; simp [go_sem, Act.eval]) fun F2 => ?_
          refine lyp F2 rfl HCC rfl (by omega) (wanted_none rfl) (v := Value.bool false) (fun wr hwr => by simp only [execOp, (F2.eval 46 (by omega)).trans (show _ = Value.bool false from by simp [upd, e2, e9, e10])]; first | rfl | simp [go_sem]) fun F3 => ?_
          refine lyp F3 rfl HCC rfl (by omega) (want_yes F3 rfl (e := 47) rfl (by omega) (show _ = Value.bool false from by simp [upd, e2, e9, e10])) (v := Value.int .i64 0) (fun wr hwr => by simp only [execOp, (F3.eval 9 (by omega)).trans (show _ = Value.int .i64 0 from by simp [upd, e2, e9, e10])]; first | rfl | simp [go_sem]) fun F4 => ?_
          refine lyp F4 rfl HCC rfl (by omega) (want_yes F4 rfl (e := 47) rfl (by omega) (show _ = Value.bool false from by simp [upd, e2, e9, e10])) (v := Value.bool false) (fun wr hwr => by simp only [execOp, (F4.eval 48 (by omega)).trans (show _ = Value.int .i64 0 from by simp [upd, e2, e9, e10])]; simp [go_sem, Act.eval]) fun F5 => ?_
          refine lyp F5 rfl HCC rfl (by omega) (want_yes F5 rfl (e := 47) rfl (by omega) (show _ = Value.bool false from by simp [upd, e2, e9, e10])) (v := Value.bool false) (fun wr hwr => by simp only [execOp, (F5.eval 49 (by omega)).trans (show _ = Value.bool false from by simp [upd, e2, e9, e10])]; first | rfl | simp [go_sem]) fun F6 => ?_
          refine lnp F6 rfl HCC rfl (by omega) (want_no F6 rfl (e := 50) rfl (by omega) (show _ = Value.bool false from by simp [upd, e2, e9, e10]) (by decide)) fun F7 => ?_
          refine lnp F7 rfl HCC rfl (by omega) (want_no F7 rfl (e := 50) rfl (by omega) (show _ = Value.bool false from by simp [upd, e2, e9, e10]) (by decide)) fun F8 => ?_
          refine lnp F8 rfl HCC rfl (by omega) (want_no F8 rfl (e := 50) rfl (by omega) (show _ = Value.bool false from by simp [upd, e2, e9, e10]) (by decide)) fun F9 => ?_
          refine lnp F9 rfl HCC rfl (by omega) (want_no F9 rfl (e := 50) rfl (by omega) (show _ = Value.bool false from by simp [upd, e2, e9, e10]) (by decide)) fun F10 => ?_
          refine lnp F10 rfl HCC rfl (by omega) (want_no F10 rfl (e := 50) rfl (by omega) (show _ = Value.bool false from by simp [upd, e2, e9, e10]) (by decide)) fun F11 => ?_
          refine lnp F11 rfl HCC rfl (by omega) (want_no F11 rfl (e := 50) rfl (by omega) (show _ = Value.bool false from by simp [upd, e2, e9, e10]) (by decide)) fun F12 => ?_
          refine lnp F12 rfl HCC rfl (by omega) (want_no F12 rfl (e := 50) rfl (by omega) (show _ = Value.bool false from by simp [upd, e2, e9, e10]) (by decide)) fun F13 => ?_
          refine lnp F13 rfl HCC rfl (by omega) (want_no F13 rfl (e := 50) rfl (by omega) (show _ = Value.bool false from by simp [upd, e2, e9, e10]) (by decide)) fun F14 => ?_
          refine lnp F14 rfl HCC rfl (by omega) (want_no F14 rfl (e := 50) rfl (by omega) (show _ = Value.bool false from by simp [upd, e2, e9, e10]) (by decide)) fun F15 => ?_
          refine lnp F15 rfl HCC rfl (by omega) (want_no F15 rfl (e := 50) rfl (by omega) (show _ = Value.bool false from by simp [upd, e2, e9, e10]) (by decide)) fun F16 => ?_
          refine lnp F16 rfl HCC rfl (by omega) (want_no F16 rfl (e := 50) rfl (by omega) (show _ = Value.bool false from by simp [upd, e2, e9, e10]) (by decide)) fun F17 => ?_
          refine lnp F17 rfl HCC rfl (by omega) (want_no F17 rfl (e := 50) rfl (by omega) (show _ = Value.bool false from by simp [upd, e2, e9, e10]) (by decide)) fun F18 => ?_
          refine lyp F18 rfl HCC rfl (by omega) (want_yes F18 rfl (e := 47) rfl (by omega) (show _ = Value.bool false from by simp [upd, e2, e9, e10])) (v := Value.bool false) (fun wr hwr => by simp only [execOp, (F18.eval 50 (by omega)).trans (show _ = Value.bool false from by simp [upd, e2, e9, e10])]; simp [go_sem, Act.eval]) fun F19 => ?_
          refine lyp F19 rfl HCC rfl (by omega) (wanted_none rfl) (v := Value.bool false) (fun wr hwr => by simp only [execOp, (F19.eval 47 (by omega)).trans (show _ = Value.bool false from by simp [upd, e2, e9, e10]), (F19.eval 63 (by omega)).trans (show _ = Value.bool false from by simp [upd, e2, e9, e10])]; simp [go_sem, Act.eval]) fun F20 => ?_
          refine ⟨fun _ => HCC, ?_⟩
          refine hK _ _ ?_
          clear F0 F1 F2 F3 F4 F5 F6 F7 F8 F9 F10 F11 F12 F13 F14 F15 F16 F17 F18 F19 F20 e2 e9 e10 HCC
          simp only [Act.put, List.setIfInBounds_toArray, List.set_cons_succ, List.set_cons_zero]
          obtain ⟨W2, hW2⟩ : ∃ W2 : World, W2 = ({ W with drawn := W.drawn + 1 } : World) := ⟨_, rfl⟩
          have HB2 : Hid (Below w.heap.size w W2) := show Below w.heap.size w W2 from by rw [hW2]; exact below_drewN HBW.out 1
          have g0 : W2.cell? ⟨b, off, none⟩ = some (.string ⟨e.n.toArray⟩) := by rw [hW2]; have h9 := HVW.out.c0; rwa [Nat.zero_mul, Nat.add_zero] at h9
          have HLS : Hid _ := rlast_any r e.n W2 (HV.out.more HB2.out) (by omega)
          rw [← hW2]
          clear hW2 HBW HVW
          generalize lastD r e.n A0 = x0 at *
          have hf3 := fld3 x0
          unfold viewV at HLS hf3
          go_wp2_with fail
          refine Calls.mono HLS.out ?_
          rintro e9 W3 ⟨rfl, hb3⟩
          have HB3 : Hid (Below w.heap.size w W3) := HB2.out.trans (hb3.mono HB2.out.size)
          clear hb3 HLS HB2 g0
          by_cases hx0 : x0.v = 0
          · have hx0b : (x0.v == 0) = true := by simpa using hx0
            have HF1 : Hid (rfresh r A0 (es.take (0 + 1)) = fr + 1) := show _ = _ from by rw [HFS.out, if_pos hx0]
            have hw2 : IntKind.i64.wrap ((fr : Int) + 1) = (fr : Int) + 1 := by rw [IntKind.wrap_i64]; omega
            clear hx0 HFS
            go_wp2_with fail
            go_roundw
            case rel => exact ⟨0 + 1, by omega, by go_num, by rw [HF1.out]; go_num, HN.out, HB3.out⟩
            case measure => simp [intOf]; omega
          · have hx0b : (x0.v == 0) = false := by simpa using hx0
            have HF1 : Hid (rfresh r A0 (es.take (0 + 1)) = fr) := show _ = _ from by rw [HFS.out, if_neg hx0]; rfl
            clear hx0 HFS
            go_wp2_with fail
            go_roundw
            case rel => exact ⟨0 + 1, by omega, by go_num, by rw [HF1.out], HN.out, HB3.out⟩
            case measure => simp [intOf]; omega
      · replace hrt : e.right = false := by simpa using hrt
        rw [hrt]
        have HCD : Hid (CD = 1) := show _ = _ from by rw [HC0.out, if_pos (dgB_not (dig_not HE.out hrt))]
        have HNX : Hid (NX = (A0, 0)) := show _ = _ from by rw [HN0.out, HCD.out]; rfl
        clear hrt HC0 HN0
        go_wp2_with fail
        rename_i K hK
        try rw [show ∀ a : Act, a.put none undef = a from fun _ => rfl]
        refine wp_region_mix (fun wq => wq = ({ W with drawn := W.drawn + 1 } : World)) (fun i => i == 99) 99 (by kernel_rfl) rfl (by kernel_rfl) (by kernel_rfl) (by kernel_rfl) ?_
        refine withFrP (N := 123) rfl ?_
        intro f0 F0 hff
        have e2 : f0 2 = Value.slice (some ⟨b, off, none⟩) KK lcap := hff 2
        have e9 : f0 9 = Value.int .i64 (q : Int) := hff 9
        have e10 : f0 10 = Value.bool false := hff 10
        clear hff
        have HCC : (fun wq => wq = ({ W with drawn := W.drawn + 1 } : World)) (({ W with drawn := W.drawn + 1 } : World)) := rfl
        refine lyp F0 rfl HCC rfl (by omega) (wanted_none rfl) (v := Value.bool false) (fun wr hwr => by simp only [execOp, (F0.eval 10 (by omega)).trans (show _ = Value.bool false from by simp [upd, e2, e9, e10])]; first | rfl | simp [go_sem]) fun F1 => ?_
        refine lyp F1 rfl HCC rfl (by omega) (wanted_none rfl) (v := Value.bool true) (fun wr hwr => by simp only [execOp, (F1.eval 45 (by omega)).trans (show _ = Value.bool false from by simp [upd, e2, e9, e10])]; simp [go_sem, Act.eval]) fun F2 => ?_
        refine lyp F2 rfl HCC rfl (by omega) (wanted_none rfl) (v := Value.bool true) (fun wr hwr => by simp only [execOp, (F2.eval 46 (by omega)).trans (show _ = Value.bool true from by simp [upd, e2, e9, e10])]; first | rfl | simp [go_sem]) fun F3 => ?_
        refine lnp F3 rfl HCC rfl (by omega) (want_no F3 rfl (e := 47) rfl (by omega) (show _ = Value.bool true from by simp [upd, e2, e9, e10]) (by decide)) fun F4 => ?_
        refine lnp F4 rfl HCC rfl (by omega) (want_no F4 rfl (e := 47) rfl (by omega) (show _ = Value.bool true from by simp [upd, e2, e9, e10]) (by decide)) fun F5 => ?_
        refine lnp F5 rfl HCC rfl (by omega) (want_no F5 rfl (e := 47) rfl (by omega) (show _ = Value.bool true from by simp [upd, e2, e9, e10]) (by decide)) fun F6 => ?_
        refine lnp F6 rfl HCC rfl (by omega) (want_not F6 rfl (e := 50) rfl (by omega) (show _ = undef from by simp [upd, e2, e9, e10])) fun F7 => ?_
        refine lnp F7 rfl HCC rfl (by omega) (want_not F7 rfl (e := 50) rfl (by omega) (show _ = undef from by simp [upd, e2, e9, e10])) fun F8 => ?_
        refine lnp F8 rfl HCC rfl (by omega) (want_not F8 rfl (e := 50) rfl (by omega) (show _ = undef from by simp [upd, e2, e9, e10])) fun F9 => ?_
        refine lnp F9 rfl HCC rfl (by omega) (want_not F9 rfl (e := 50) rfl (by omega) (show _ = undef from by simp [upd, e2, e9, e10])) fun F10 => ?_
        refine lnp F10 rfl HCC rfl (by omega) (want_not F10 rfl (e := 50) rfl (by omega) (show _ = undef from by simp [upd, e2, e9, e10])) fun F11 => ?_
        refine lnp F11 rfl HCC rfl (by omega) (want_not F11 rfl (e := 50) rfl (by omega) (show _ = undef from by simp [upd, e2, e9, e10])) fun F12 => ?_
        refine lnp F12 rfl HCC rfl (by omega) (want_not F12 rfl (e := 50) rfl (by omega) (show _ = undef from by simp [upd, e2, e9, e10])) fun F13 => ?_
        refine lnp F13 rfl HCC rfl (by omega) (want_not F13 rfl (e := 50) rfl (by omega) (show _ = undef from by simp [upd, e2, e9, e10])) fun F14 => ?_
        refine lnp F14 rfl HCC rfl (by omega) (want_not F14 rfl (e := 50) rfl (by omega) (show _ = undef from by simp [upd, e2, e9, e10])) fun F15 => ?_
        refine lnp F15 rfl HCC rfl (by omega) (want_not F15 rfl (e := 50) rfl (by omega) (show _ = undef from by simp [upd, e2, e9, e10])) fun F16 => ?_
        refine lnp F16 rfl HCC rfl (by omega) (want_not F16 rfl (e := 50) rfl (by omega) (show _ = undef from by simp [upd, e2, e9, e10])) fun F17 => ?_
        refine lnp F17 rfl HCC rfl (by omega) (want_not F17 rfl (e := 50) rfl (by omega) (show _ = undef from by simp [upd, e2, e9, e10])) fun F18 => ?_
        refine lnp F18 rfl HCC rfl (by omega) (want_no F18 rfl (e := 47) rfl (by omega) (show _ = Value.bool true from by simp [upd, e2, e9, e10]) (by decide)) fun F19 => ?_
        refine lyp F19 rfl HCC rfl (by omega) (wanted_none rfl) (v := Value.bool true) (fun wr hwr => by simp only [execOp, (F19.eval 47 (by omega)).trans (show _ = Value.bool true from by simp [upd, e2, e9, e10])]; simp [go_sem, Act.eval]) fun F20 => ?_
        refine ⟨fun _ => HCC, ?_⟩
        refine hK _ _ ?_
        clear F0 F1 F2 F3 F4 F5 F6 F7 F8 F9 F10 F11 F12 F13 F14 F15 F16 F17 F18 F19 F20 e2 e9 e10 HCC
        simp only [Act.put, List.setIfInBounds_toArray, List.set_cons_succ, List.set_cons_zero]
        go_wp2_with fail
        go_ret2
        exact ⟨by rw [HCD.out, HNX.out]; rfl, by rw [HNX.out]; exact HST.out _ (below_drewN HBW.out 1)⟩
    · have hqk : es.take q = es := List.take_of_length_le (by rw [HL.out]; omega)
      rw [hqk] at hpre hfl ⊢
      have HDG : Hid (dgB es = true) := dgB_iff.2 hpre
      have HB : Hid (Below w.heap.size w wr) := hbel
      rw [HDG.out, if_neg (by simp)] at HC0
      generalize rfresh r A0 es = fr at *
      clear hpre hbel hqk k0 k1
      have HNM : Hid _ := names_any' r wr (HV.out.more HB.out) (by omega)
      have hnl9 : (nmsL r A0).length ≤ 90000 := Nat.le_trans (nmsL_len _ _) hA
      go_wp2_with fail
      refine Calls.mono HNM.out ?_
      rintro e9 w3 ⟨nv, rfl, hnr, hb4⟩
      obtain ⟨na, nc, hnv, hq9⟩ := own_slice hnr
      subst hnv
      have HB3 : Hid (Below w.heap.size w w3) := HB.out.trans (hb4.mono HB.out.size)
      clear hq9 hnr hb4 HNM HB
      generalize (nmsL r A0).length = nn at *
      have hw1 : IntKind.i64.wrap ((nn : Int) + (fr : Int)) = (nn : Int) + (fr : Int) := by rw [IntKind.wrap_i64]; omega
      by_cases c5 : 64 < nn + fr
      · have c5i : (64 : Int) < (nn : Int) + (fr : Int) := by omega
        have HCD : Hid (CD = 102) := show _ = _ from by rw [HC0.out, if_pos c5]
        have HNX : Hid (NX = (A0, 0)) := show _ = _ from by rw [HN0.out, HCD.out]; rfl
        clear HC0 HN0 c5
        go_wp2_with fail
        go_ret2
        exact ⟨by rw [HCD.out, HNX.out]; rfl, by rw [HNX.out]; exact HST.out _ HB3.out⟩
      · have c5i : ¬ (64 : Int) < (nn : Int) + (fr : Int) := by omega
        have HCD : Hid (CD = 0) := show _ = _ from by rw [HC0.out, if_neg c5]
        have HNX : Hid (NX = rtakeF r A0 es) := show _ = _ from by rw [HN0.out, HCD.out]; rfl
        clear HC0 HN0 c5
        go_wp2_with fail
        go_loopw [11, 12] (fun f i wr => ∃ (q : Nat) (v : Value), q ≤ KK ∧ i = .int .i64 q ∧ f = .int .i64 ((rtakeF r A0 (es.take q)).2 : Nat) ∧ RStep L rb me N v0 v (rtakeF r A0 (es.take q)).1 w wr) (fun _ i _ => KK - (intOf i).toNat)
        case atStart => exact ⟨0, v0, Nat.zero_le _, rfl, rfl, HV.out.more HB3.out, Chg.ofBelow _ HB3.out, fun g hg => Or.inl hg⟩
        case round =>
          obtain ⟨q, v, hq, rfl, rfl, hst⟩ := hrel
          by_cases hlt : q < KK
          · obtain ⟨e, he⟩ : ∃ e, es[q]? = some e := ⟨es[q]'(by rw [HL.out]; exact hlt), List.getElem?_eq_getElem _⟩
            obtain ⟨b, off, hla, hc⟩ := HF.out (by rw [HL.out]; omega)
            subst hla
            have hbs : b < w.heap.size := (hc q e he).lt
            obtain ⟨hb1, hb2⟩ := HFM.out (by omega) b off rfl
            have HVQ : Hid (VAt wr b (off + q * 7) e) := hst.from (es := es) hbs hb1 hb2 (hc q e he)
            have HTM : Hid (rtakeF r A0 (es.take (q + 1)) = rtakeStep r (rtakeF r A0 (es.take q)) e) := rtakeF_more he
            have hle := rtakeF_le r A0 q es
            generalize rtakeF r A0 (es.take q) = acc at *
            obtain ⟨A, cn⟩ := acc
            simp only at hle hst ⊢
            obtain ⟨ao, cap, hvv, hq9⟩ := own_slice hst.vw.row
            subst hvv
            have HAL : Hid (A.length ≤ 200000) := show A.length ≤ 200000 from by omega
            have HS0 : Hid (RStep L rb me N v0 (.slice ao A.length cap) A w wr) := hst
            have HLS : Hid (∀ W, RVw L rb me N (.slice ao A.length cap) A W → _) := fun W h => rlast_any r e.n W h (by omega)
            have HBN : Hid (b ≠ rb ∧ v0.ownBlock ≠ some b ∧ b < w.heap.size) := ⟨hb1, hb2, hbs⟩
            have hcn : cn ≤ 64 := by omega
            have HTS : Hid (rtakeStep r (A, cn) e = if (lastD r e.n A).v < e.v then (A ++ [{ e with r := r }], cn + 1) else (A, cn)) := rfl
            generalize lastD r e.n A = x0 at *
            unfold viewV at HLS
            clear hst he hc hb1 hb2 hbs hq9 hle
            by_cases hvv : x0.v < e.v
            · have HTE : Hid (rtakeF r A0 (es.take (q + 1)) = (A ++ [{ e with r := r }], cn + 1)) := show _ = _ from by rw [HTM.out, HTS.out, if_pos hvv]
              clear HTM HTS
              go_wp2_with fail
              rename_i K hK
              try rw [show ∀ a : Act, a.put none undef = a from fun _ => rfl]
              refine wp_region_mix (fun wq => VAt wq b (off + q * 7) e) (fun i => i == 12 || i == 99) 99 (by kernel_rfl) rfl (by kernel_rfl) (by kernel_rfl) (by kernel_rfl) ?_
              refine withFrP (N := 123) rfl ?_
              intro f0 F0 hff
              have ee0 : f0 0 = Value.pointer (some ⟨rb, 0, none⟩) := hff 0
              have ee1 : f0 1 = Value.int .i64 r := hff 1
              have ee2 : f0 2 = Value.slice (some ⟨b, off, none⟩) KK lcap := hff 2
              have ee12 : f0 12 = Value.int .i64 ((q : Nat) : Int) := hff 12
              clear hff
              have HCC : (fun wq => VAt wq b (off + q * 7) e) (({ wr with drawn := wr.drawn + 1 } : World)) := HVQ.out.keep rfl
              refine lyp F0 rfl HCC rfl (by omega) (wanted_none rfl) (v := Value.slice (some ⟨b, off, none⟩) KK lcap) (fun wr hwr => by simp only [execOp, (F0.eval 2 (by omega)).trans (show _ = Value.slice (some ⟨b, off, none⟩) KK lcap from by simp [upd, ee0, ee1, ee2, ee12])]; first | rfl | simp [go_sem]) fun F1 => ?_
              refine lyp F1 rfl HCC rfl (by omega) (wanted_none rfl) (v := Value.int .i64 ((q : Nat) : Int)) (fun wr hwr => by simp only [execOp, (F1.eval 12 (by omega)).trans (show _ = Value.int .i64 ((q : Nat) : Int) from by simp [upd, ee0, ee1, ee2, ee12])]; first | rfl | simp [go_sem]) fun F2 => ?_
              refine lyp F2 rfl HCC rfl (by omega) (wanted_none rfl) (v := Value.pointer (some ⟨b, off + q * 7, none⟩)) (fun wr hwr => by simp only [execOp, (F2.eval 90 (by omega)).trans (show _ = Value.slice (some ⟨b, off, none⟩) KK lcap from by simp [upd, ee0, ee1, ee2, ee12]), (F2.eval 91 (by omega)).trans (show _ = Value.int .i64 ((q : Nat) : Int) from by simp [upd, ee0, ee1, ee2, ee12])]; simp only [Sem.run_bind, Sem.run_pure, Result.andThen_ok, idx_run 113 86 7 Tryd.underlying113 info46 wr b off KK lcap q hlt]; try rfl) fun F3 => ?_
              refine lyp F3 rfl HCC rfl (by omega) (wanted_none rfl) (v := Value.pointer (some ⟨b, off + q * 7 + 3, none⟩)) (fun wr hwr => by simp only [execOp, (F3.eval 92 (by omega)).trans (show _ = Value.pointer (some ⟨b, off + q * 7, none⟩) from by simp [upd, ee0, ee1, ee2, ee12])]; simp [go_sem]) fun F4 => ?_
              refine lyp F4 rfl HCC rfl (by omega) (wanted_none rfl) (v := Value.int .i64 e.v) (fun wr hwr => by simp only [execOp, (F4.eval 93 (by omega)).trans (show _ = Value.pointer (some ⟨b, off + q * 7 + 3, none⟩) from by simp [upd, ee0, ee1, ee2, ee12])]; simp [go_sem, hwr.c3]) fun F5 => ?_
              refine lyp F5 rfl HCC rfl (by omega) (wanted_none rfl) (v := Value.pointer (some ⟨rb, 0, none⟩)) (fun wr hwr => by simp only [execOp, (F5.eval 0 (by omega)).trans (show _ = Value.pointer (some ⟨rb, 0, none⟩) from by simp [upd, ee0, ee1, ee2, ee12])]; first | rfl | simp [go_sem]) fun F6 => ?_
              refine lyp F6 rfl HCC rfl (by omega) (wanted_none rfl) (v := Value.int .i64 r) (fun wr hwr => by simp only [execOp, (F6.eval 1 (by omega)).trans (show _ = Value.int .i64 r from by simp [upd, ee0, ee1, ee2, ee12])]; first | rfl | simp [go_sem]) fun F7 => ?_
              refine lyp F7 rfl HCC rfl (by omega) (wanted_none rfl) (v := Value.slice (some ⟨b, off, none⟩) KK lcap) (fun wr hwr => by simp only [execOp, (F7.eval 2 (by omega)).trans (show _ = Value.slice (some ⟨b, off, none⟩) KK lcap from by simp [upd, ee0, ee1, ee2, ee12])]; first | rfl | simp [go_sem]) fun F8 => ?_
              refine lyp F8 rfl HCC rfl (by omega) (wanted_none rfl) (v := Value.int .i64 ((q : Nat) : Int)) (fun wr hwr => by simp only [execOp, (F8.eval 12 (by omega)).trans (show _ = Value.int .i64 ((q : Nat) : Int) from by simp [upd, ee0, ee1, ee2, ee12])]; first | rfl | simp [go_sem]) fun F9 => ?_
              refine lyp F9 rfl HCC rfl (by omega) (wanted_none rfl) (v := Value.pointer (some ⟨b, off + q * 7, none⟩)) (fun wr hwr => by simp only [execOp, (F9.eval 97 (by omega)).trans (show _ = Value.slice (some ⟨b, off, none⟩) KK lcap from by simp [upd, ee0, ee1, ee2, ee12]), (F9.eval 98 (by omega)).trans (show _ = Value.int .i64 ((q : Nat) : Int) from by simp [upd, ee0, ee1, ee2, ee12])]; simp only [Sem.run_bind, Sem.run_pure, Result.andThen_ok, idx_run 113 86 7 Tryd.underlying113 info46 wr b off KK lcap q hlt]; try rfl) fun F10 => ?_
              refine lyp F10 rfl HCC rfl (by omega) (wanted_none rfl) (v := Value.pointer (some ⟨b, off + q * 7, none⟩)) (fun wr hwr => by simp only [execOp, (F10.eval 99 (by omega)).trans (show _ = Value.pointer (some ⟨b, off + q * 7, none⟩) from by simp [upd, ee0, ee1, ee2, ee12])]; simp [go_sem]) fun F11 => ?_
              refine lyp F11 rfl HCC rfl (by omega) (wanted_none rfl) (v := Value.string ⟨e.n.toArray⟩) (fun wr hwr => by simp only [execOp, (F11.eval 100 (by omega)).trans (show _ = Value.pointer (some ⟨b, off + q * 7, none⟩) from by simp [upd, ee0, ee1, ee2, ee12])]; simp [go_sem, hwr.c0]) fun F12 => ?_
              refine lcp F12 rfl HCC rfl (by omega) (wanted_none rfl) (g := 61) (args := #[Value.pointer (some ⟨rb, 0, none⟩), Value.int .i64 r, Value.string ⟨e.n.toArray⟩]) (by simp only [execOp, resolve, invoke, List.map_toArray, List.map_cons, List.map_nil, (F12.eval 95 (by omega)).trans (show _ = Value.pointer (some ⟨rb, 0, none⟩) from by simp [upd, ee0, ee1, ee2, ee12]), (F12.eval 96 (by omega)).trans (show _ = Value.int .i64 r from by simp [upd, ee0, ee1, ee2, ee12]), (F12.eval 101 (by omega)).trans (show _ = Value.string ⟨e.n.toArray⟩ from by simp [upd, ee0, ee1, ee2, ee12])]; simp [go_sem, Act.eval]) (HLS.out (({ wr with drawn := wr.drawn + 1 } : World)) (HS0.out.vw.keep rfl (fun _ _ => rfl))) ?_
              rintro e9 Y ⟨rfl, hbY⟩
              refine ⟨_, rfl, fun F13 => ?_⟩
              have HC2 : (fun wq => VAt wq b (off + q * 7) e) Y := HCC.keep (hbY.block _ HCC.lt)
              refine lyp F13 rfl HC2 rfl (by omega) (wanted_none rfl) (v := Value.int .i64 x0.v) (fun wr hwr => by simp only [execOp, (F13.eval 102 (by omega)).trans (show _ = Value.agg #[.string ⟨x0.n.toArray⟩, .int .i64 x0.c, .int .i64 x0.rc, .int .i64 x0.v, .int .i64 x0.d, .int .i64 x0.u, .int .i64 x0.h] from by simp [upd, ee0, ee1, ee2, ee12])]; simp [go_sem, show (Instr.field 86 (.agg #[.string ⟨x0.n.toArray⟩, .int .i64 x0.c, .int .i64 x0.rc, .int .i64 x0.v, .int .i64 x0.d, .int .i64 x0.u, .int .i64 x0.h]) 3).run Tryd.prog wr = .ok (.int .i64 x0.v) wr from fld3 x0 wr]) fun F14 => ?_
              refine lyp F14 rfl HC2 rfl (by omega) (wanted_none rfl) (v := Value.bool true) (fun wr hwr => by simp only [execOp, (F14.eval 94 (by omega)).trans (show _ = Value.int .i64 e.v from by simp [upd, ee0, ee1, ee2, ee12]), (F14.eval 103 (by omega)).trans (show _ = Value.int .i64 x0.v from by simp [upd, ee0, ee1, ee2, ee12])]; simp [go_sem, Act.eval, hvv]) fun F15 => ?_
              refine ⟨fun _ => HC2, ?_⟩
              refine hK _ _ ?_
              clear F0 F1 F2 F3 F4 F5 F6 F7 F8 F9 F10 F11 F12 F13 F14 F15 ee0 ee1 ee2 ee12 HCC HC2
              simp only [Act.put, List.setIfInBounds_toArray, List.set_cons_succ, List.set_cons_zero]
              have HSY : Hid (RStep L rb me N v0 (.slice ao A.length cap) A w Y) := HS0.out.more (show Below wr.heap.size wr Y from (Below.drew (Below.refl _ _)).trans hbY)
              have HVY : Hid (RVw L rb me N (.slice ao A.length cap) A Y) := HSY.out.vw
              obtain ⟨e2, he2⟩ : ∃ e2 : Ent, e2 = { e with r := r } := ⟨_, rfl⟩
              have hr2 : e2.r = r := by rw [he2]
              have HVX : Hid (VAt Y b (off + q * 7) e2) := show VAt Y b (off + q * 7) e2 from by rw [he2]; exact (HVQ.out.keep ((show Below wr.heap.size wr Y from (Below.drew (Below.refl _ _)).trans hbY).block b HVQ.out.lt)).re r
              have HE2 : Hid (e2 = { e with r := r }) := he2
              have y2 : Y.cell? ⟨rb, 2, none⟩ = some (.slice ao A.length cap) := HVY.out.c2
              have HCK : Hid (∀ wa wb : World, Below wa.heap.size wa wb → (fun wq => wq.cell? ⟨rb, 2, none⟩ = some (.slice ao A.length cap) ∧ VAt wq b (off + q * 7) e2) wa → (fun wq => wq.cell? ⟨rb, 2, none⟩ = some (.slice ao A.length cap) ∧ VAt wq b (off + q * 7) e2) wb) := fun wa wb hb hh => ⟨cell_below hb hh.1, hh.2.keep (hb.block _ hh.2.lt)⟩
              have HNB : Hid (∀ hh : (Value.slice ao A.length cap).ownBlock = some b, False) := fun hh => by
                rcases HSY.out.at' b hh with h1 | h1
                · exact HBN.out.2.1 h1
                · have := HBN.out.2.2; omega
              clear hbY he2 HS0 HVQ HLS
              go_wp2_with fail
              rename_i K hK
              try rw [show ∀ a : Act, a.put none undef = a from fun _ => rfl]
              refine wp_region_mix (fun wq => wq.cell? ⟨rb, 2, none⟩ = some (.slice ao A.length cap) ∧ VAt wq b (off + q * 7) e2) (fun i => i == 11 || i == 12 || i == 15) 15 (by kernel_rfl) rfl (by kernel_rfl) (by kernel_rfl) (by kernel_rfl) ?_
              refine withFrP (N := 123) rfl ?_
              intro f0 F0 hff
              have ee0 : f0 0 = Value.pointer (some ⟨rb, 0, none⟩) := hff 0
              have ee1 : f0 1 = Value.int .i64 r := hff 1
              have ee2 : f0 2 = Value.slice (some ⟨b, off, none⟩) KK lcap := hff 2
              have ee12 : f0 12 = Value.int .i64 ((q : Nat) : Int) := hff 12
              clear hff
              have HCC : (fun wq => wq.cell? ⟨rb, 2, none⟩ = some (.slice ao A.length cap) ∧ VAt wq b (off + q * 7) e2) (({ Y with drawn := Y.drawn + 1 } : World)) := ⟨y2, HVX.out.keep rfl⟩
              have HC1 : (fun wq => wq.cell? ⟨rb, 2, none⟩ = some (.slice ao A.length cap) ∧ VAt wq b (off + q * 7) e2) ((({ Y with drawn := Y.drawn + 1 } : World)).alloc (.cells #[.int .i64 e2.r, .string ⟨e2.n.toArray⟩, .int .i64 e2.c, .int .i64 e2.rc, .int .i64 e2.v, .int .i64 e2.d, .int .i64 e2.u, .int .i64 e2.h] 130)) := HCK.out _ _ ((Below.refl _ _).alloc (Nat.le_refl _) _) HCC
              refine lyp F0 rfl HCC rfl (by omega) (wanted_none rfl) (v := Value.pointer (some ⟨rb, 0, none⟩)) (fun wr hwr => by simp only [execOp, (F0.eval 0 (by omega)).trans (show _ = Value.pointer (some ⟨rb, 0, none⟩) from by simp [upd, ee0, ee1, ee2, ee12])]; first | rfl | simp [go_sem]) fun F1 => ?_
              refine lyp F1 rfl HCC rfl (by omega) (wanted_none rfl) (v := Value.pointer (some ⟨rb, 0, none⟩)) (fun wr hwr => by simp only [execOp, (F1.eval 0 (by omega)).trans (show _ = Value.pointer (some ⟨rb, 0, none⟩) from by simp [upd, ee0, ee1, ee2, ee12])]; first | rfl | simp [go_sem]) fun F2 => ?_
              refine lyp F2 rfl HCC rfl (by omega) (wanted_none rfl) (v := Value.pointer (some ⟨rb, 0, none⟩)) (fun wr hwr => by simp only [execOp, (F2.eval 106 (by omega)).trans (show _ = Value.pointer (some ⟨rb, 0, none⟩) from by simp [upd, ee0, ee1, ee2, ee12])]; simp [go_sem]) fun F3 => ?_
              refine lyp F3 rfl HCC rfl (by omega) (wanted_none rfl) (v := Value.pointer (some ⟨rb, 2, none⟩)) (fun wr hwr => by simp only [execOp, (F3.eval 107 (by omega)).trans (show _ = Value.pointer (some ⟨rb, 0, none⟩) from by simp [upd, ee0, ee1, ee2, ee12])]; simp [go_sem]) fun F4 => ?_
              refine lyp F4 rfl HCC rfl (by omega) (wanted_none rfl) (v := Value.slice ao A.length cap) (fun wr hwr => by simp only [execOp, (F4.eval 108 (by omega)).trans (show _ = Value.pointer (some ⟨rb, 2, none⟩) from by simp [upd, ee0, ee1, ee2, ee12])]; simp [go_sem, hwr.1]) fun F5 => ?_
              refine lyp F5 rfl HCC rfl (by omega) (wanted_none rfl) (v := Value.int .i64 r) (fun wr hwr => by simp only [execOp, (F5.eval 1 (by omega)).trans (show _ = Value.int .i64 r from by simp [upd, ee0, ee1, ee2, ee12])]; first | rfl | simp [go_sem]) fun F6 => ?_
              refine lyp F6 rfl HCC rfl (by omega) (wanted_none rfl) (v := Value.slice (some ⟨b, off, none⟩) KK lcap) (fun wr hwr => by simp only [execOp, (F6.eval 2 (by omega)).trans (show _ = Value.slice (some ⟨b, off, none⟩) KK lcap from by simp [upd, ee0, ee1, ee2, ee12])]; first | rfl | simp [go_sem]) fun F7 => ?_
              refine lyp F7 rfl HCC rfl (by omega) (wanted_none rfl) (v := Value.int .i64 ((q : Nat) : Int)) (fun wr hwr => by simp only [execOp, (F7.eval 12 (by omega)).trans (show _ = Value.int .i64 ((q : Nat) : Int) from by simp [upd, ee0, ee1, ee2, ee12])]; first | rfl | simp [go_sem]) fun F8 => ?_
              refine lyp F8 rfl HCC rfl (by omega) (wanted_none rfl) (v := Value.pointer (some ⟨b, off + q * 7, none⟩)) (fun wr hwr => by simp only [execOp, (F8.eval 111 (by omega)).trans (show _ = Value.slice (some ⟨b, off, none⟩) KK lcap from by simp [upd, ee0, ee1, ee2, ee12]), (F8.eval 112 (by omega)).trans (show _ = Value.int .i64 ((q : Nat) : Int) from by simp [upd, ee0, ee1, ee2, ee12])]; simp only [Sem.run_bind, Sem.run_pure, Result.andThen_ok, idx_run 113 86 7 Tryd.underlying113 info46 wr b off KK lcap q hlt, Nat.zero_add, Nat.mul_one]; try rfl) fun F9 => ?_
              refine lyp F9 rfl HCC rfl (by omega) (wanted_none rfl) (v := Value.agg #[.string ⟨e2.n.toArray⟩, .int .i64 e2.c, .int .i64 e2.rc, .int .i64 e2.v, .int .i64 e2.d, .int .i64 e2.u, .int .i64 e2.h]) (fun wr hwr => by simp only [execOp, (F9.eval 113 (by omega)).trans (show _ = Value.pointer (some ⟨b, off + q * 7, none⟩) from by simp [upd, ee0, ee1, ee2, ee12])]; simp [go_sem, hwr.2.c0, hwr.2.c1, hwr.2.c2, hwr.2.c3, hwr.2.c4, hwr.2.c5, hwr.2.c6]) fun F10 => ?_
              refine lyp F10 rfl HCC rfl (by omega) (wanted_none rfl) (v := Value.agg #[.int .i64 e2.r, .string ⟨e2.n.toArray⟩, .int .i64 e2.c, .int .i64 e2.rc, .int .i64 e2.v, .int .i64 e2.d, .int .i64 e2.u, .int .i64 e2.h]) (fun wr hwr => by simp only [execOp, List.map_toArray, List.map_cons, List.map_nil, (F10.eval 110 (by omega)).trans (show _ = Value.int .i64 r from by simp [upd, ee0, ee1, ee2, ee12]), (F10.eval 114 (by omega)).trans (show _ = Value.agg #[.string ⟨e2.n.toArray⟩, .int .i64 e2.c, .int .i64 e2.rc, .int .i64 e2.v, .int .i64 e2.d, .int .i64 e2.u, .int .i64 e2.h] from by simp [upd, ee0, ee1, ee2, ee12])]; simp [go_sem, hr2]; try rfl) fun F11 => ?_
              refine lep F11 rfl HCC rfl (by omega) (wanted_none rfl) (v := Value.slice (some ⟨Y.heap.size, 0, none⟩) 1 1) (w1 := (({ Y with drawn := Y.drawn + 1 } : World)).alloc (.cells #[.int .i64 e2.r, .string ⟨e2.n.toArray⟩, .int .i64 e2.c, .int .i64 e2.rc, .int .i64 e2.v, .int .i64 e2.d, .int .i64 e2.u, .int .i64 e2.h] 130)) (by simp only [execOp, List.map_toArray, List.map_cons, List.map_nil, (F11.eval 115 (by omega)).trans (show _ = Value.agg #[.int .i64 e2.r, .string ⟨e2.n.toArray⟩, .int .i64 e2.c, .int .i64 e2.rc, .int .i64 e2.v, .int .i64 e2.d, .int .i64 e2.u, .int .i64 e2.h] from by simp [upd, ee0, ee1, ee2, ee12])]; simp [go_sem]) fun F12 => ?_
              obtain ⟨ao5, cap5, w5, hrun, hc5, hz5, hf5, hV5, hch5, hat5⟩ := (show RVw L rb me N (.slice ao A.length cap) A (({ Y with drawn := Y.drawn + 1 } : World)) from HVY.out.keep rfl (fun _ _ => rfl)).push HAL.out e2
              have HC5 : (fun wq => wq.cell? ⟨rb, 2, none⟩ = some (.slice ao A.length cap) ∧ VAt wq b (off + q * 7) e2) w5 := ⟨hz5, HVX.out.keep (hc5.block b HVX.out.lt (fun hh => HNB.out hh))⟩
              refine lep F12 rfl HC1 rfl (by omega) (wanted_none rfl) (v := Value.slice ao5 (A.length + 1) cap5) (w1 := w5) (by simp only [execOp, resolve, invoke, builtin, List.map_toArray, List.map_cons, List.map_nil, (F12.eval 109 (by omega)).trans (show _ = Value.slice ao A.length cap from by simp [upd, ee0, ee1, ee2, ee12]), (F12.eval 116 (by omega)).trans (show _ = Value.slice (some ⟨Y.heap.size, 0, none⟩) 1 1 from by simp [upd, ee0, ee1, ee2, ee12])]; simp only [Sem.run_bind, Sem.run_pure, Result.andThen_ok, show _ = _ from hrun _]; try rfl) fun F13 => ?_
              refine lyp F13 rfl HC5 rfl (by omega) (wanted_none rfl) (v := Value.pointer (some ⟨rb, 0, none⟩)) (fun wr hwr => by simp only [execOp, (F13.eval 105 (by omega)).trans (show _ = Value.pointer (some ⟨rb, 0, none⟩) from by simp [upd, ee0, ee1, ee2, ee12])]; simp [go_sem]) fun F14 => ?_
              refine lyp F14 rfl HC5 rfl (by omega) (wanted_none rfl) (v := Value.pointer (some ⟨rb, 2, none⟩)) (fun wr hwr => by simp only [execOp, (F14.eval 118 (by omega)).trans (show _ = Value.pointer (some ⟨rb, 0, none⟩) from by simp [upd, ee0, ee1, ee2, ee12])]; simp [go_sem]) fun F15 => ?_
              refine lst rfl HC5 rfl (wanted_none rfl) (w1 := w5.setCell ⟨rb, 2, none⟩ (.slice ao5 (A.length + 1) cap5)) (by simp only [execOp, (F15.eval 119 (by omega)).trans (show _ = Value.pointer (some ⟨rb, 2, none⟩) from by simp [upd, ee0, ee1, ee2, ee12]), (F15.eval 117 (by omega)).trans (show _ = Value.slice ao5 (A.length + 1) cap5 from by simp [upd, ee0, ee1, ee2, ee12])]; simp [go_sem, hf5, hz5]) ?_
              refine ⟨fun h => by omega, ?_⟩
              refine hK _ _ ?_
              clear F0 F1 F2 F3 F4 F5 F6 F7 F8 F9 F10 F11 F12 F13 F14 F15 ee0 ee1 ee2 ee12 HCC HC1 HC5 hz5 hf5 hrun hc5
              simp only [Act.put, List.setIfInBounds_toArray, List.set_cons_succ, List.set_cons_zero]
              have HFN : Hid (RStep L rb me N v0 (.slice ao5 (A.length + 1) cap5) (A ++ [e2]) w (w5.setCell ⟨rb, 2, none⟩ (.slice ao5 (A.length + 1) cap5))) := HSY.out.next hV5 ⟨hch5.os, hch5.tape, hch5.output, hch5.size, hch5.block⟩ hat5
              clear hV5 hch5 hat5
              have hw2 : IntKind.i64.wrap ((cn : Int) + 1) = (cn : Int) + 1 := by rw [IntKind.wrap_i64]; omega
              go_wp2_with fail
              go_roundw
              case rel => exact ⟨q + 1, _, by omega, by go_num, by rw [HTE.out]; go_num, by rw [HTE.out, ← HE2.out]; exact HFN.out⟩
              case measure => simp [intOf]; omega
            · have HTE : Hid (rtakeF r A0 (es.take (q + 1)) = (A, cn)) := show _ = _ from by rw [HTM.out, HTS.out, if_neg hvv]
              clear HTM HTS
              go_wp2_with fail
              rename_i K hK
              try rw [show ∀ a : Act, a.put none undef = a from fun _ => rfl]
              refine wp_region_mix (fun wq => VAt wq b (off + q * 7) e) (fun i => i == 12 || i == 99) 99 (by kernel_rfl) rfl (by kernel_rfl) (by kernel_rfl) (by kernel_rfl) ?_
              refine withFrP (N := 123) rfl ?_
              intro f0 F0 hff
              have ee0 : f0 0 = Value.pointer (some ⟨rb, 0, none⟩) := hff 0
              have ee1 : f0 1 = Value.int .i64 r := hff 1
              have ee2 : f0 2 = Value.slice (some ⟨b, off, none⟩) KK lcap := hff 2
              have ee12 : f0 12 = Value.int .i64 ((q : Nat) : Int) := hff 12
              clear hff
              have HCC : (fun wq => VAt wq b (off + q * 7) e) (({ wr with drawn := wr.drawn + 1 } : World)) := HVQ.out.keep rfl
              refine lyp F0 rfl HCC rfl (by omega) (wanted_none rfl) (v := Value.slice (some ⟨b, off, none⟩) KK lcap) (fun wr hwr => by simp only [execOp, (F0.eval 2 (by omega)).trans (show _ = Value.slice (some ⟨b, off, none⟩) KK lcap from by simp [upd, ee0, ee1, ee2, ee12])]; first | rfl | simp [go_sem]) fun F1 => ?_
              refine lyp F1 rfl HCC rfl (by omega) (wanted_none rfl) (v := Value.int .i64 ((q : Nat) : Int)) (fun wr hwr => by simp only [execOp, (F1.eval 12 (by omega)).trans (show _ = Value.int .i64 ((q : Nat) : Int) from by simp [upd, ee0, ee1, ee2, ee12])]; first | rfl | simp [go_sem]) fun F2 => ?_
              refine lyp F2 rfl HCC rfl (by omega) (wanted_none rfl) (v := Value.pointer (some ⟨b, off + q * 7, none⟩)) (fun wr hwr => by simp only [execOp, (F2.eval 90 (by omega)).trans (show _ = Value.slice (some ⟨b, off, none⟩) KK lcap from by simp [upd, ee0, ee1, ee2, ee12]), (F2.eval 91 (by omega)).trans (show _ = Value.int .i64 ((q : Nat) : Int) from by simp [upd, ee0, ee1, ee2, ee12])]; simp only [Sem.run_bind, Sem.run_pure, Result.andThen_ok, idx_run 113 86 7 Tryd.underlying113 info46 wr b off KK lcap q hlt]; try rfl) fun F3 => ?_
              refine lyp F3 rfl HCC rfl (by omega) (wanted_none rfl) (v := Value.pointer (some ⟨b, off + q * 7 + 3, none⟩)) (fun wr hwr => by simp only [execOp, (F3.eval 92 (by omega)).trans (show _ = Value.pointer (some ⟨b, off + q * 7, none⟩) from by simp [upd, ee0, ee1, ee2, ee12])]; simp [go_sem]) fun F4 => ?_
              refine lyp F4 rfl HCC rfl (by omega) (wanted_none rfl) (v := Value.int .i64 e.v) (fun wr hwr => by simp only [execOp, (F4.eval 93 (by omega)).trans (show _ = Value.pointer (some ⟨b, off + q * 7 + 3, none⟩) from by simp [upd, ee0, ee1, ee2, ee12])]; simp [go_sem, hwr.c3]) fun F5 => ?_
              refine lyp F5 rfl HCC rfl (by omega) (wanted_none rfl) (v := Value.pointer (some ⟨rb, 0, none⟩)) (fun wr hwr => by simp only [execOp, (F5.eval 0 (by omega)).trans (show _ = Value.pointer (some ⟨rb, 0, none⟩) from by simp [upd, ee0, ee1, ee2, ee12])]; first | rfl | simp [go_sem]) fun F6 => ?_
              refine lyp F6 rfl HCC rfl (by omega) (wanted_none rfl) (v := Value.int .i64 r) (fun wr hwr => by simp only [execOp, (F6.eval 1 (by omega)).trans (show _ = Value.int .i64 r from by simp [upd, ee0, ee1, ee2, ee12])]; first | rfl | simp [go_sem]) fun F7 => ?_
              refine lyp F7 rfl HCC rfl (by omega) (wanted_none rfl) (v := Value.slice (some ⟨b, off, none⟩) KK lcap) (fun wr hwr => by simp only [execOp, (F7.eval 2 (by omega)).trans (show _ = Value.slice (some ⟨b, off, none⟩) KK lcap from by simp [upd, ee0, ee1, ee2, ee12])]; first | rfl | simp [go_sem]) fun F8 => ?_
              refine lyp F8 rfl HCC rfl (by omega) (wanted_none rfl) (v := Value.int .i64 ((q : Nat) : Int)) (fun wr hwr => by simp only [execOp, (F8.eval 12 (by omega)).trans (show _ = Value.int .i64 ((q : Nat) : Int) from by simp [upd, ee0, ee1, ee2, ee12])]; first | rfl | simp [go_sem]) fun F9 => ?_
              refine lyp F9 rfl HCC rfl (by omega) (wanted_none rfl) (v := Value.pointer (some ⟨b, off + q * 7, none⟩)) (fun wr hwr => by simp only [execOp, (F9.eval 97 (by omega)).trans (show _ = Value.slice (some ⟨b, off, none⟩) KK lcap from by simp [upd, ee0, ee1, ee2, ee12]), (F9.eval 98 (by omega)).trans (show _ = Value.int .i64 ((q : Nat) : Int) from by simp [upd, ee0, ee1, ee2, ee12])]; simp only [Sem.run_bind, Sem.run_pure, Result.andThen_ok, idx_run 113 86 7 Tryd.underlying113 info46 wr b off KK lcap q hlt]; try rfl) fun F10 => ?_
              refine lyp F10 rfl HCC rfl (by omega) (wanted_none rfl) (v := Value.pointer (some ⟨b, off + q * 7, none⟩)) (fun wr hwr => by simp only [execOp, (F10.eval 99 (by omega)).trans (show _ = Value.pointer (some ⟨b, off + q * 7, none⟩) from by simp [upd, ee0, ee1, ee2, ee12])]; simp [go_sem]) fun F11 => ?_
              refine lyp F11 rfl HCC rfl (by omega) (wanted_none rfl) (v := Value.string ⟨e.n.toArray⟩) (fun wr hwr => by simp only [execOp, (F11.eval 100 (by omega)).trans (show _ = Value.pointer (some ⟨b, off + q * 7, none⟩) from by simp [upd, ee0, ee1, ee2, ee12])]; simp [go_sem, hwr.c0]) fun F12 => ?_
              refine lcp F12 rfl HCC rfl (by omega) (wanted_none rfl) (g := 61) (args := #[Value.pointer (some ⟨rb, 0, none⟩), Value.int .i64 r, Value.string ⟨e.n.toArray⟩]) (by simp only [execOp, resolve, invoke, List.map_toArray, List.map_cons, List.map_nil, (F12.eval 95 (by omega)).trans (show _ = Value.pointer (some ⟨rb, 0, none⟩) from by simp [upd, ee0, ee1, ee2, ee12]), (F12.eval 96 (by omega)).trans (show _ = Value.int .i64 r from by simp [upd, ee0, ee1, ee2, ee12]), (F12.eval 101 (by omega)).trans (show _ = Value.string ⟨e.n.toArray⟩ from by simp [upd, ee0, ee1, ee2, ee12])]; simp [go_sem, Act.eval]) (HLS.out (({ wr with drawn := wr.drawn + 1 } : World)) (HS0.out.vw.keep rfl (fun _ _ => rfl))) ?_
              rintro e9 Y ⟨rfl, hbY⟩
              refine ⟨_, rfl, fun F13 => ?_⟩
              have HC2 : (fun wq => VAt wq b (off + q * 7) e) Y := HCC.keep (hbY.block _ HCC.lt)
              refine lyp F13 rfl HC2 rfl (by omega) (wanted_none rfl) (v := Value.int .i64 x0.v) (fun wr hwr => by simp only [execOp, (F13.eval 102 (by omega)).trans (show _ = Value.agg #[.string ⟨x0.n.toArray⟩, .int .i64 x0.c, .int .i64 x0.rc, .int .i64 x0.v, .int .i64 x0.d, .int .i64 x0.u, .int .i64 x0.h] from by simp [upd, ee0, ee1, ee2, ee12])]; simp [go_sem, show (Instr.field 86 (.agg #[.string ⟨x0.n.toArray⟩, .int .i64 x0.c, .int .i64 x0.rc, .int .i64 x0.v, .int .i64 x0.d, .int .i64 x0.u, .int .i64 x0.h]) 3).run Tryd.prog wr = .ok (.int .i64 x0.v) wr from fld3 x0 wr]) fun F14 => ?_
              refine lyp F14 rfl HC2 rfl (by omega) (wanted_none rfl) (v := Value.bool false) (fun wr hwr => by simp only [execOp, (F14.eval 94 (by omega)).trans (show _ = Value.int .i64 e.v from by simp [upd, ee0, ee1, ee2, ee12]), (F14.eval 103 (by omega)).trans (show _ = Value.int .i64 x0.v from by simp [upd, ee0, ee1, ee2, ee12])]; simp [go_sem, Act.eval, hvv]) fun F15 => ?_
              refine ⟨fun _ => HC2, ?_⟩
              refine hK _ _ ?_
              clear F0 F1 F2 F3 F4 F5 F6 F7 F8 F9 F10 F11 F12 F13 F14 F15 ee0 ee1 ee2 ee12 HCC HC2
              simp only [Act.put, List.setIfInBounds_toArray, List.set_cons_succ, List.set_cons_zero]
              have HSY : Hid (RStep L rb me N v0 (.slice ao A.length cap) A w Y) := HS0.out.more (show Below wr.heap.size wr Y from (Below.drew (Below.refl _ _)).trans hbY)
              clear hbY HS0 HVQ HLS
              go_wp2_with fail
              go_roundw
              case rel => exact ⟨q + 1, _, by omega, by go_num, by rw [HTE.out], by rw [HTE.out]; exact HSY.out⟩
              case measure => simp [intOf]; omega
          · have hqk : es.take q = es := List.take_of_length_le (by rw [HL.out]; omega)
            rw [hqk] at hst ⊢
            have HS0 : Hid (RStep L rb me N v0 v (rtakeF r A0 es).1 w wr) := hst
            clear hst hqk
            go_wp2_with fail
            go_ret2
            exact ⟨by rw [HCD.out, HNX.out]; rfl, by rw [HNX.out]; exact HS0.out.post⟩
end Go.Proofs.YtjmbhaoehfdpoaaDoor
