import Derived.Test.YtnphkmdanicemaaGreatDoorVRa
import Derived.Test.YtnphkmdanicemaaGreatDoorVVw
import Derived.Laws.Rows
import Derived.Laws.Tables
import Derived.Laws.CopyOwn
namespace Go.Proofs.YtnphkmdanicemaaGreatDoor
open Go.RowKit Go.PlainAid Go.MapKept
set_option linter.unusedVariables false
set_option linter.unusedSimpArgs false
def Ent.cs7 (e : Ent) : Array Value := #[.string ⟨e.n.toArray⟩, .int .i64 e.c, .int .i64 e.rc, .int .i64 e.v, .int .i64 e.d, .int .i64 e.u, .int .i64 e.h]
def Ent.rw (e : Ent) : List Value := [.int .i64 e.r, .string ⟨e.n.toArray⟩, .int .i64 e.c, .int .i64 e.rc, .int .i64 e.v, .int .i64 e.d, .int .i64 e.u, .int .i64 e.h]
def flatE (A : List Ent) : List Value := A.flatMap Ent.rw
theorem flatE_length : ∀ es : List Ent, (flatE es).length = es.length * 8
  | [] => rfl
  | e :: es => by
    have := flatE_length es
    unfold flatE at *
    simp only [List.flatMap_cons, List.length_append, List.length_cons, this, Ent.rw, List.length_nil]
    omega
theorem flatE_get : ∀ (es : List Ent) (i j : Nat) (e : Ent), es[i]? = some e → j < 8 → (flatE es)[i * 8 + j]? = e.rw[j]?
  | [], i, j, e, h, _ => by simp at h
  | x :: es, 0, j, e, h, hj => by
    simp at h
    subst h
    show (x.rw ++ flatE es)[0 * 8 + j]? = _
    rw [Nat.zero_mul, Nat.zero_add, List.getElem?_append_left (by simpa [Ent.rw] using hj)]
  | x :: es, i + 1, j, e, h, hj => by
    have ih := flatE_get es i j e (by simpa using h) hj
    show (x.rw ++ flatE es)[(i + 1) * 8 + j]? = _
    rw [List.getElem?_append_right (by simp [Ent.rw]; omega)]
    rw [← ih]
    congr 1
    simp [Ent.rw]
    omega
theorem flatE_append (a b : List Ent) : flatE (a ++ b) = flatE a ++ flatE b := by simp [flatE]
/-- The document's views in memory: all that was taken. -/
structure RVw (L rb : Nat) (me n : Int) (v : Value) (A : List Ent) (w : World) : Prop where
  blk : Blk w rb #[.int .i64 me, .int .i64 n, v] 125
  row : w.ownsRow L 150 8 v A.length (flatE A)
  lo : L ≤ rb
section
variable {L rb : Nat} {me n : Int} {v : Value} {A : List Ent} {w w' : World}
theorem RVw.c0 (h : RVw L rb me n v A w) : w.cell? ⟨rb, 0, none⟩ = some (.int .i64 me) := h.blk.cell 0
theorem RVw.c1 (h : RVw L rb me n v A w) : w.cell? ⟨rb, 1, none⟩ = some (.int .i64 n) := h.blk.cell 1
theorem RVw.c2 (h : RVw L rb me n v A w) : w.cell? ⟨rb, 2, none⟩ = some v := h.blk.cell 2
theorem RVw.keep (h : RVw L rb me n v A w) (h1 : w'.heap[rb]? = w.heap[rb]?) (h2 : ∀ g, v.ownBlock = some g → w'.heap[g]? = w.heap[g]?) : RVw L rb me n v A w' := ⟨h1.trans h.blk, ownsRow_same h.row h2, h.lo⟩
theorem RVw.more (h : RVw L rb me n v A w) (hb : Below w.heap.size w w') : RVw L rb me n v A w' := h.keep (hb.block _ h.blk.lt) (fun g hg => hb.block _ (ownsRow_lt h.row hg).2)
end
/-- The cells of the entry j. -/
structure EAt (w : World) (g o : Nat) (e : Ent) : Prop where
  c0 : w.cell? ⟨g, o, none⟩ = some (.int .i64 e.r)
  c1 : w.cell? ⟨g, o + 1, none⟩ = some (.string ⟨e.n.toArray⟩)
  c2 : w.cell? ⟨g, o + 1 + 1, none⟩ = some (.int .i64 e.c)
  c3 : w.cell? ⟨g, o + 1 + 2, none⟩ = some (.int .i64 e.rc)
  c4 : w.cell? ⟨g, o + 1 + 3, none⟩ = some (.int .i64 e.v)
  c5 : w.cell? ⟨g, o + 1 + 4, none⟩ = some (.int .i64 e.d)
  c6 : w.cell? ⟨g, o + 1 + 5, none⟩ = some (.int .i64 e.u)
  c7 : w.cell? ⟨g, o + 1 + 6, none⟩ = some (.int .i64 e.h)
theorem RVw.at {L rb : Nat} {me n : Int} {v : Value} {A : List Ent} {w : World} (h : RVw L rb me n v A w) : ∃ ao cap, v = .slice ao A.length cap ∧ A.length ≤ cap ∧ (0 < A.length → ∃ g, ao = some ⟨g, 0, none⟩ ∧ L ≤ g ∧ ∀ j e, A[j]? = some e → EAt w g (j * 8) e) := by
  obtain ⟨ao, cap, hv, hc, _, hg⟩ := own_read h.row
  refine ⟨ao, cap, hv, hc, fun h0 => ?_⟩
  obtain ⟨g, h1, h2, h3, h4⟩ := hg h0
  refine ⟨g, h1, h2, fun j e he => ?_⟩
  have hq : ∀ t, t < 8 → ∀ u, e.rw[t]? = some u → w.cell? ⟨g, j * 8 + t, none⟩ = some u := fun t ht u hu => h4 _ _ (by rw [flatE_get A j t e he ht]; exact hu)
  exact ⟨hq 0 (by decide) _ rfl, hq 1 (by decide) _ rfl, hq 2 (by decide) _ rfl, hq 3 (by decide) _ rfl, hq 4 (by decide) _ rfl, hq 5 (by decide) _ rfl, hq 6 (by decide) _ rfl, hq 7 (by decide) _ rfl⟩
theorem EAt.below {w w' : World} {g o : Nat} {e : Ent} (h : EAt w g o e) (hb : w'.heap[g]? = w.heap[g]?) : EAt w' g o e :=
  have k : ∀ j, w'.cell? ⟨g, j, none⟩ = w.cell? ⟨g, j, none⟩ := fun j => World.cell?_of_block (w := w) hb
  ⟨(k _).trans h.c0, (k _).trans h.c1, (k _).trans h.c2, (k _).trans h.c3, (k _).trans h.c4, (k _).trans h.c5, (k _).trans h.c6, (k _).trans h.c7⟩
/-- The last one of a replica and a name. -/
def lastD (r : Int) (n : List UInt8) (A : List Ent) : Ent := A.foldl (fun x e => if isK r n e = true then e else x) zed
theorem lastD_app (r : Int) (n : List UInt8) (A : List Ent) (e : Ent) : lastD r n (A ++ [e]) = if isK r n e = true then e else lastD r n A := by simp [lastD]
theorem take_snoc {α : Type} {l : List α} {j : Nat} {e : α} (h : l[j]? = some e) : l.take (j + 1) = l.take j ++ [e] := by rw [List.take_add_one, h]; rfl
theorem info46 : (Tryz.prog.info? 105).map (·.size) = some 7 := by kernel_rfl
theorem cs7_one (e : Ent) : (e.cs7).all (·.oneCell') = true := by simp [Ent.cs7, Value.oneCell']
/-- last's two boxes. -/
structure LB (w : World) (b : Nat) (x : Ent) (wr : World) : Prop where
  a : Blk wr b zed.cs7 105
  b' : Blk wr (b + 1) x.cs7 105
  bel : Below w.heap.size w wr
theorem LB.set {w : World} {b : Nat} {x : Ent} {wr : World} (h : LB w b x wr) (hb : b = w.heap.size) (e : Ent) : LB w b e (wr.setRow (b + 1) e.cs7) :=
  ⟨(setRow_other _ _ _ _ (by omega)).trans h.a, setRow_heap _ _ _ _ 105 _ h.b', below_setRow h.bel (by omega) _⟩
theorem LB.fin {w : World} {b : Nat} {x : Ent} {wr : World} (h : LB w b x wr) (hb : b = w.heap.size) (e : Ent) : Blk (wr.setRow b e.cs7) b e.cs7 105 ∧ Below w.heap.size w (wr.setRow b e.cs7) :=
  ⟨setRow_heap _ _ _ _ 105 _ h.a, below_setRow h.bel (by omega) _⟩
set_option maxRecDepth 100000 in
set_option maxHeartbeats 1600000 in
theorem rlast_any {L rb : Nat} {me N : Int} {v : Value} {A : List Ent} (r : Int) (n : List UInt8) (w : World) (hV : RVw L rb me N v A w) (hL : A.length ≤ 100000) :
    Calls Tryz.prog 76 #[.pointer (some ⟨rb, 0, none⟩), .int .i64 r, .string ⟨n.toArray⟩] w fun e w' => e = .returned (viewV (lastD r n A)) ∧ Below w.heap.size w w' := by
  obtain ⟨ao, cap, hv, hcap, hat⟩ := hV.at
  subst hv
  obtain ⟨M, hM⟩ : ∃ M, M = A.length := ⟨_, rfl⟩
  obtain ⟨b6, hb6⟩ : ∃ b, b = w.heap.size := ⟨_, rfl⟩
  obtain ⟨X, hX⟩ : ∃ X, X = (w.alloc (.cells #[.string ⟨#[]⟩, .int .i64 0, .int .i64 0, .int .i64 0, .int .i64 0, .int .i64 0, .int .i64 0] 105)).alloc (.cells #[.string ⟨#[]⟩, .int .i64 0, .int .i64 0, .int .i64 0, .int .i64 0, .int .i64 0, .int .i64 0] 105) := ⟨_, rfl⟩
  have HX : Hid (LB w b6 zed X) := show LB w b6 zed X from by
    refine ⟨?_, ?_, ?_⟩
    · rw [hX, hb6]; exact (Below.heap_alloc _ _ _ (by simp)).trans (heap_alloc_new w _)
    · rw [hX, hb6]; have := heap_alloc_new (w.alloc (.cells zed.cs7 105)) (.cells zed.cs7 105); rwa [World.size_alloc] at this
    · rw [hX]; exact ((Below.refl _ _).alloc (Nat.le_refl _) _).alloc (by simp) _
  have HV : Hid (RVw L rb me N (.slice ao M cap) A w) := show RVw L rb me N (.slice ao M cap) A w from by rw [hM]; exact hV
  have HAT : Hid (0 < A.length → ∃ g, ao = some ⟨g, 0, none⟩ ∧ L ≤ g ∧ ∀ j e, A[j]? = some e → EAt w g (j * 8) e) := hat
  have HM : Hid (M = A.length) := hM
  have HB6 : Hid (b6 = w.heap.size) := hb6
  have hML : M ≤ 100000 := by omega
  clear hV hat
  rw [← hM] at hcap
  clear hM hL
  go_enter Tryz.func76, Tryz.ntmps76
  go_upto_region 2 with fail
  rw [← hX, ← hb6]
  clear hX hb6
  go_wp2_with fail
  go_loopw [8] (fun i wr => ∃ j : Nat, j ≤ M ∧ i = .int .i64 j ∧ LB w b6 (lastD r n (A.take j)) wr) (fun i _ => M - (intOf i).toNat)
  case atStart => exact ⟨0, Nat.zero_le _, rfl, HX.out⟩
  case round =>
    obtain ⟨j, hj, rfl, hl⟩ := hrel
    have hV2 := HV.out.more hl.bel
    have c2 := hV2.c2
    clear hV2
    by_cases hlt : j < M
    · obtain ⟨e, he⟩ : ∃ e, A[j]? = some e := ⟨_, List.getElem?_eq_getElem (by rw [← HM.out]; exact hlt)⟩
      obtain ⟨g, hg, hLg, hE⟩ := HAT.out (by rw [← HM.out]; omega)
      subst hg
      have hgl : g < w.heap.size := (ownsRow_lt HV.out.row rfl).2
      obtain ⟨e0, e1, e2, e3, e4, e5, e6, e7⟩ := (hE j e he).below (hl.bel.block g hgl)
      have HS : Hid (lastD r n (A.take (j + 1)) = if isK r n e = true then e else lastD r n (A.take j)) := show _ = _ from by rw [take_snoc he, lastD_app]
      generalize lastD r n (A.take j) = x at *
      have HL : Hid (LB w b6 x wr) := hl
      clear hl hE he hgl hLg
      by_cases k1 : e.r = r
      · by_cases k2 : e.n = n
        · have HT : Hid (lastD r n (A.take (j + 1)) = e) := show _ = _ from by rw [HS.out, if_pos (isK_iff.2 ⟨k1.symm, k2.symm⟩)]
          have HB7 : Hid (Blk wr (b6 + 1) x.cs7 105) := HL.out.b'
          clear HS
          subst k2
          go_wp2_with (refine wpList_store_row rfl 105 _ _ rfl (b6 + 1) e.cs7 rfl rfl 105 _ HB7.out info46 rfl (cs7_one _) ?_)
          go_roundw
          case rel => exact ⟨j + 1, by omega, by go_num, by rw [HT.out]; exact HL.out.set HB6.out e⟩
          case measure => simp [intOf]; omega
        · have HT : Hid (lastD r n (A.take (j + 1)) = x) := show _ = _ from by rw [HS.out, if_neg (fun h => k2 (isK_iff.1 h).2.symm)]
          have k3 : (e.n == n) = false := by simpa using k2
          clear HS k2
          go_wp2_with fail
          go_roundw
          case rel => exact ⟨j + 1, by omega, by go_num, by rw [HT.out]; exact HL.out⟩
          case measure => simp [intOf]; omega
      · have HT : Hid (lastD r n (A.take (j + 1)) = x) := show _ = _ from by rw [HS.out, if_neg (fun h => k1 (isK_iff.1 h).1.symm)]
        replace k1 : (e.r == r) = false := by simpa using k1
        clear HS
        go_wp2_with fail
        go_roundw
        case rel => exact ⟨j + 1, by omega, by go_num, by rw [HT.out]; exact HL.out⟩
        case measure => simp [intOf]; omega
    · have hjm : A.take j = A := List.take_of_length_le (by rw [← HM.out]; omega)
      rw [hjm] at hl
      obtain ⟨x, hx⟩ : ∃ x, x = lastD r n A := ⟨_, rfl⟩
      rw [← hx] at hl
      have HXX : Hid (lastD r n A = x) := hx.symm
      have HL : Hid (LB w b6 x wr) := hl
      have HB6' : Hid (Blk wr b6 zed.cs7 105) := hl.a
      have e0 := hl.b'.cell 0
      have e1 := hl.b'.cell 1
      have e2 := hl.b'.cell 2
      have e3 := hl.b'.cell 3
      have e4 := hl.b'.cell 4
      have e5 := hl.b'.cell 5
      have e6 := hl.b'.cell 6
      simp only [Ent.cs7] at e0 e1 e2 e3 e4 e5 e6
      clear hl hjm hx
      go_wp2_with (refine wpList_store_row rfl 105 _ _ rfl b6 x.cs7 rfl rfl 105 _ HB6'.out info46 rfl (cs7_one _) ?_)
      obtain ⟨f1, f2⟩ := HL.out.fin HB6.out x
      refine bodyPost_ret (results_cell_row Tryz.results76 _ _ b6 105 _ (0, 0) _ rfl f1 Tryz.underlying105 rfl info46) rfl ?_
      exact ⟨by rw [HXX.out]; rfl, f2⟩
end Go.Proofs.YtnphkmdanicemaaGreatDoor
