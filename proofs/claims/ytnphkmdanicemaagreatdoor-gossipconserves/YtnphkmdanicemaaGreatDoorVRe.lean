import Derived.Test.YtnphkmdanicemaaGreatDoorVRd
import Derived.Test.YtnphkmdanicemaaGreatDoorVRc
import Derived.Deep.Cut
namespace Go.Proofs.YtnphkmdanicemaaGreatDoor
open Go.RowKit Go.PlainAid Go.MapKept
set_option linter.unusedVariables false
set_option linter.unusedSimpArgs false
theorem setCell_chg (w : World) (g j : Nat) (v : Value) : Chg (fun k => k = g) w (w.setCell ⟨g, j, none⟩ v) := ⟨rfl, rfl, rfl, by simp [World.setCell], fun k _ hn => Below.heap_setCell _ _ _ _ hn⟩
theorem blk_alloc {w : World} {b : Nat} {C : Array Value} {T : TypeId} (h : Blk w b C T) (o : Obj) : Blk (w.alloc o) b C T := (Below.heap_alloc _ _ _ h.lt).trans h
theorem RVw.push {L rb : Nat} {me n : Int} {v : Value} {A : List Ent} {Y : World} (h : RVw L rb me n v A Y) (hA : A.length ≤ 200000) (e : Ent) :
    ∃ ao5 cap5 w5, (∀ ty, (Builtin.append_ #[123, 123] ty #[v, .slice (some ⟨Y.heap.size, 0, none⟩) 1 1]).run Tryz.prog (Y.alloc (.cells #[.int .i64 e.r, .string ⟨e.n.toArray⟩, .int .i64 e.c, .int .i64 e.rc, .int .i64 e.v, .int .i64 e.d, .int .i64 e.u, .int .i64 e.h] 150)) = .ok (.slice ao5 (A.length + 1) cap5) w5) ∧
      Chg (fun k => v.ownBlock = some k) Y w5 ∧ w5.cell? ⟨rb, 2, none⟩ = some v ∧ w5.frozen? ⟨rb, 2, none⟩ = false ∧
      RVw L rb me n (.slice ao5 (A.length + 1) cap5) (A ++ [e]) (w5.setCell ⟨rb, 2, none⟩ (.slice ao5 (A.length + 1) cap5)) ∧
      Chg (fun k => k = rb ∨ v.ownBlock = some k) Y (w5.setCell ⟨rb, 2, none⟩ (.slice ao5 (A.length + 1) cap5)) ∧
      ∀ g, (Value.slice ao5 (A.length + 1) cap5).ownBlock = some g → v.ownBlock = some g ∨ Y.heap.size ≤ g := by
  have hLY : L ≤ Y.heap.size := Nat.le_trans h.lo (Nat.le_of_lt h.blk.lt)
  obtain ⟨v', w5, h1, h2, h3⟩ := app_one 123 150 (.agg #[.int .i64 0, .string ⟨#[]⟩, .int .i64 0, .int .i64 0, .int .i64 0, .int .i64 0, .int .i64 0, .int .i64 0]) 8 72 Tryz.underlying123 info133 rfl (by decide) (by decide) h.row #[.int .i64 e.r, .string ⟨e.n.toArray⟩, .int .i64 e.c, .int .i64 e.rc, .int .i64 e.v, .int .i64 e.d, .int .i64 e.u, .int .i64 e.h] rfl (fun u hu => by simp at hu; rcases hu with rfl | rfl | rfl | rfl | rfl | rfl | rfl | rfl <;> rfl) (by omega) hLY
  obtain ⟨ao5, cap5, hv, hc⟩ := own_slice h2
  subst hv
  have hnb : ∀ u k, (w5.ownsRow L 150 8 u k (flatE A ++ e.rw) ∨ Y.ownsRow L 150 8 u k (flatE A)) → (∃ W, (W = w5 ∨ W = Y) ∧ True) → True := fun _ _ _ _ => trivial
  have n1 : ¬ v.ownBlock = some rb := fun hh => by
    obtain ⟨cu, hcu⟩ := ownsRow_type h.row hh
    exact Blk.ne_t h.blk (show Blk Y rb cu 150 from hcu) (by decide) rfl
  have hB5 : Blk w5 rb #[.int .i64 me, .int .i64 n, v] 125 := h3.chg.blk h.blk n1
  have n2 : ¬ (Value.slice ao5 (A.length + 1) cap5).ownBlock = some rb := fun hh => by
    obtain ⟨cu, hcu⟩ := ownsRow_type h2 hh
    exact Blk.ne_t hB5 (show Blk w5 rb cu 150 from hcu) (by decide) rfl
  have hc2 := setCell_chg w5 rb 2 (.slice ao5 (A.length + 1) cap5)
  refine ⟨ao5, cap5, w5, h1, h3.chg, hB5.cell 2, hB5.frozen 2, ⟨hB5.set 2 _, ?_, h.lo⟩, ?_, h3.at'⟩
  · have h4 : World.ownsRow w5 L 150 8 (.slice ao5 (A.length + 1) cap5) (A ++ [e]).length (flatE (A ++ [e])) := by rw [flatE_append, show flatE [e] = e.rw from by simp [flatE], List.length_append]; exact h2
    exact ownsRow_same h4 (fun g hg => Below.heap_setCell _ _ _ _ (fun e => n2 (by rw [e] at hg; exact hg)))
  · exact (h3.chg.mono (fun _ _ h => Or.inr h)).trans hc2 (fun _ _ h => Or.inl h)
theorem cell_below {w w' : World} {b o : Nat} {v : Value} (hb : Below w.heap.size w w') (h : w.cell? ⟨b, o, none⟩ = some v) : w'.cell? ⟨b, o, none⟩ = some v := (World.cell?_of_block (w := w) (hb.block b (World.block_lt_of_cell? w _ h))).trans h

def rtellCode (me : Int) (A : List Ent) (e : Ent) : Int := if e.right = false then 1 else if (lastD me e.n A).v = 0 ∧ 64 ≤ (nmsL me A).length then 102 else 0
def rsame (l e : Ent) : Prop := 0 < l.v ∧ l.c = e.c ∧ l.rc = e.rc ∧ l.d = e.d ∧ l.u = e.u ∧ l.h = e.h
instance (l e : Ent) : Decidable (rsame l e) := by unfold rsame; exact inferInstance
def rtellNext (me : Int) (A : List Ent) (e : Ent) : List Ent := if e.right = false then A else if (lastD me e.n A).v = 0 ∧ 64 ≤ (nmsL me A).length then A else if rsame (lastD me e.n A) e then A else A ++ [{ e with r := me, v := (lastD me e.n A).v + 1 }]
/-- What a call of the document's views leaves. -/
structure RPost (L rb : Nat) (me N : Int) (v : Value) (A' : List Ent) (w w' : World) : Prop where
  out : ∃ v', RVw L rb me N v' A' w' ∧ (∀ g, v'.ownBlock = some g → v.ownBlock = some g ∨ w.heap.size ≤ g)
  chg : Chg (fun k => k = rb ∨ v.ownBlock = some k) w w'
theorem RPost.stay {L rb : Nat} {me N : Int} {v : Value} {A : List Ent} {w w' : World} (h : RVw L rb me N v A w) (hb : Below w.heap.size w w') : RPost L rb me N v A w w' := ⟨⟨v, h.more hb, fun g hg => Or.inl hg⟩, Chg.ofBelow _ hb⟩
set_option maxRecDepth 100000 in
set_option maxHeartbeats 6400000 in
theorem rtell_any {L rb : Nat} {me N : Int} {v : Value} {A : List Ent} (n : List UInt8) (c rc d u h : Int) (w : World) (hV : RVw L rb me N v A w) (hA : A.length ≤ 100000) (hs : (Ent.mk me n c rc 1 d u h).sane) (hv : 0 ≤ (lastD me n A).v ∧ (lastD me n A).v ≤ 1000000) :
    Calls Tryz.prog 61 #[.pointer (some ⟨rb, 0, none⟩), .string ⟨n.toArray⟩, .int .i64 c, .int .i64 rc, .agg #[.int .i64 d, .int .i64 u], .int .i64 h] w fun q w' => q = .returned (.int .i64 (rtellCode me A ⟨me, n, c, rc, 1, d, u, h⟩)) ∧ RPost L rb me N v (rtellNext me A ⟨me, n, c, rc, 1, d, u, h⟩) w w' := by
  obtain ⟨ao, cap, hvv, _⟩ := own_slice hV.row
  subst hvv
  have HV : Hid (RVw L rb me N (.slice ao A.length cap) A w) := hV
  have HAL : Hid (A.length ≤ 200000) := show A.length ≤ 200000 from by omega
  have HRR : Hid (∀ W, Calls Tryz.prog 77 #[viewV ⟨me, n, c, rc, 1, d, u, h⟩] W fun r w' => r = .returned (.bool (Ent.right ⟨me, n, c, rc, 1, d, u, h⟩)) ∧ Below W.heap.size W w') := fun W => rright_any ⟨me, n, c, rc, 1, d, u, h⟩ W hs
  unfold viewV at HRR
  simp only at HRR
  have HC0 : Hid (rtellCode me A ⟨me, n, c, rc, 1, d, u, h⟩ = if Ent.right ⟨me, n, c, rc, 1, d, u, h⟩ = false then 1 else if (lastD me n A).v = 0 ∧ 64 ≤ (nmsL me A).length then 102 else 0) := rfl
  have HN0 : Hid (rtellNext me A ⟨me, n, c, rc, 1, d, u, h⟩ = if Ent.right ⟨me, n, c, rc, 1, d, u, h⟩ = false then A else if (lastD me n A).v = 0 ∧ 64 ≤ (nmsL me A).length then A else if rsame (lastD me n A) ⟨me, n, c, rc, 1, d, u, h⟩ then A else A ++ [⟨me, n, c, rc, (lastD me n A).v + 1, d, u, h⟩]) := rfl
  generalize rtellCode me A ⟨me, n, c, rc, 1, d, u, h⟩ = CD at *
  generalize rtellNext me A ⟨me, n, c, rc, 1, d, u, h⟩ = NX at *
  obtain ⟨rx, hrx⟩ : ∃ rx, rx = w.heap.size := ⟨_, rfl⟩
  obtain ⟨X, hX⟩ : ∃ X, X = (w.alloc (.cells #[.int .i64 d, .int .i64 u] 37)).alloc (.cells #[.string ⟨n.toArray⟩, .int .i64 c, .int .i64 rc, .int .i64 1, .int .i64 d, .int .i64 u, .int .i64 h] 105) := ⟨_, rfl⟩
  have hRX : Blk X rx #[.int .i64 d, .int .i64 u] 37 := by rw [hX, hrx]; exact (Below.heap_alloc _ _ _ (by simp)).trans (heap_alloc_new w _)
  have hXX : Blk X (rx + 1) #[.string ⟨n.toArray⟩, .int .i64 c, .int .i64 rc, .int .i64 1, .int .i64 d, .int .i64 u, .int .i64 h] 105 := by rw [hX, hrx]; have := heap_alloc_new (w.alloc (.cells #[.int .i64 d, .int .i64 u] 37)) (.cells #[.string ⟨n.toArray⟩, .int .i64 c, .int .i64 rc, .int .i64 1, .int .i64 d, .int .i64 u, .int .i64 h] 105); rwa [World.size_alloc] at this
  have HBX : Hid (Below w.heap.size w X) := show Below w.heap.size w X from by rw [hX]; exact ((Below.refl _ _).alloc (Nat.le_refl _) _).alloc (by simp) _
  obtain ⟨xb, hxb⟩ : ∃ xb, xb = rx + 1 := ⟨_, rfl⟩
  rw [← hxb] at hXX
  have HXB : Hid (w.heap.size ≤ xb) := show w.heap.size ≤ xb from by omega
  have HRX : Hid (Blk X rx #[.int .i64 d, .int .i64 u] 37) := hRX
  have HXX : Hid (Blk X xb #[.string ⟨n.toArray⟩, .int .i64 c, .int .i64 rc, .int .i64 1, .int .i64 d, .int .i64 u, .int .i64 h] 105) := hXX
  have x0 : X.cell? ⟨xb, 0, none⟩ = some (.string ⟨n.toArray⟩) := hXX.cell 0
  have x1 : X.cell? ⟨xb, 1, none⟩ = some (.int .i64 c) := hXX.cell 1
  have x2 : X.cell? ⟨xb, 2, none⟩ = some (.int .i64 rc) := hXX.cell 2
  have x3 : X.cell? ⟨xb, 3, none⟩ = some (.int .i64 1) := hXX.cell 3
  have x4 : X.cell? ⟨xb, 4, none⟩ = some (.int .i64 d) := hXX.cell 4
  have x5 : X.cell? ⟨xb, 5, none⟩ = some (.int .i64 u) := hXX.cell 5
  have x6 : X.cell? ⟨xb, 6, none⟩ = some (.int .i64 h) := hXX.cell 6
  clear hV hXX hRX hs
  go_enter Tryz.func61, Tryz.ntmps61
  go_upto_region 2 with fail
  rw [← hX, ← hrx, ← hxb]
  clear hX hrx hxb
  go_wp2_with fail
  refine Calls.mono (HRR.out X) ?_
  rintro e w1 ⟨rfl, hb1⟩
  have HB1 : Hid (Below w.heap.size w w1) := HBX.out.trans (hb1.mono HBX.out.size)
  have HR1 : Hid (Blk w1 rx #[.int .i64 d, .int .i64 u] 37) := HRX.out.below hb1 HRX.out.lt
  have HX1 : Hid (Blk w1 xb #[.string ⟨n.toArray⟩, .int .i64 c, .int .i64 rc, .int .i64 1, .int .i64 d, .int .i64 u, .int .i64 h] 105) := HXX.out.below hb1 HXX.out.lt
  generalize Ent.right ⟨me, n, c, rc, 1, d, u, h⟩ = R at *
  clear hb1 HRX HXX HBX HRR x0 x1 x2 x3 x4 x5 x6
  cases R with
  | false =>
    have HCD : Hid (CD = 1) := show _ = _ from by rw [HC0.out, if_pos rfl]
    have HNX2 : Hid (NX = A) := show _ = _ from by rw [HN0.out, if_pos rfl]
    clear HC0 HN0
    go_wp2_with fail
    go_ret
    exact ⟨by rw [HCD.out]; rfl, by rw [HNX2.out]; exact RPost.stay HV.out HB1.out⟩
  | true =>
    have hV1 := HV.out.more HB1.out
    have m0 : w1.cell? ⟨rb, 0, none⟩ = some (.int .i64 me) := hV1.c0
    have HLA : Hid _ := rlast_any me n w1 hV1 hA
    generalize lastD me n A = l at *
    unfold viewV at HLA
    clear hV1
    go_wp2_with fail
    refine Calls.mono HLA.out ?_
    rintro e w2 ⟨rfl, hb2⟩
    obtain ⟨zb, hzb⟩ : ∃ zb, zb = w2.heap.size := ⟨_, rfl⟩
    obtain ⟨Z, hZ⟩ : ∃ Z, Z = w2.alloc (.cells #[.string ⟨l.n.toArray⟩, .int .i64 l.c, .int .i64 l.rc, .int .i64 l.v, .int .i64 l.d, .int .i64 l.u, .int .i64 l.h] 105) := ⟨_, rfl⟩
    have hgz : Below w2.heap.size w2 Z := by rw [hZ]; exact (Below.refl _ _).alloc (Nat.le_refl _) _
    have hb3 : Below w1.heap.size w1 Z := hb2.trans (hgz.mono hb2.size)
    have HBZ : Hid (Below w.heap.size w Z) := HB1.out.trans (hb3.mono HB1.out.size)
    have HVZ : Hid (RVw L rb me N (.slice ao A.length cap) A Z) := HV.out.more HBZ.out
    have hRZ : Blk Z rx #[.int .i64 d, .int .i64 u] 37 := HR1.out.below hb3 HR1.out.lt
    have HXZ : Hid (Blk Z xb #[.string ⟨n.toArray⟩, .int .i64 c, .int .i64 rc, .int .i64 1, .int .i64 d, .int .i64 u, .int .i64 h] 105) := HX1.out.below hb3 HX1.out.lt
    have hZZ : Blk Z zb #[.string ⟨l.n.toArray⟩, .int .i64 l.c, .int .i64 l.rc, .int .i64 l.v, .int .i64 l.d, .int .i64 l.u, .int .i64 l.h] 105 := by rw [hZ, hzb]; exact heap_alloc_new w2 _
    have HNX : Hid (¬ rb = xb ∧ ∀ g, (Value.slice ao A.length cap).ownBlock = some g → ¬ g = xb) := ⟨fun e => by have := HV.out.blk.lt; have := HXB.out; omega, fun g hg e => by have := (ownsRow_lt HV.out.row hg).2; have := HXB.out; omega⟩
    have r0 : Z.cell? ⟨rx, 0, none⟩ = some (.int .i64 d) := hRZ.cell 0
    have r1 : Z.cell? ⟨rx, 1, none⟩ = some (.int .i64 u) := hRZ.cell 1
    have z1 : Z.cell? ⟨zb, 1, none⟩ = some (.int .i64 l.c) := hZZ.cell 1
    have z2 : Z.cell? ⟨zb, 2, none⟩ = some (.int .i64 l.rc) := hZZ.cell 2
    have z3 : Z.cell? ⟨zb, 3, none⟩ = some (.int .i64 l.v) := hZZ.cell 3
    have z4 : Z.cell? ⟨zb, 4, none⟩ = some (.int .i64 l.d) := hZZ.cell 4
    have z5 : Z.cell? ⟨zb, 5, none⟩ = some (.int .i64 l.u) := hZZ.cell 5
    have z6 : Z.cell? ⟨zb, 6, none⟩ = some (.int .i64 l.h) := hZZ.cell 6
    have m2 : Z.cell? ⟨rb, 0, none⟩ = some (.int .i64 me) := HVZ.out.c0
    have c3 : Z.cell? ⟨xb, 3, none⟩ = some (.int .i64 1) := HXZ.out.cell 3
    have HR9 : Hid (Blk Z rx #[.int .i64 d, .int .i64 u] 37) := hRZ
    have HZ9 : Hid (Blk Z zb #[.string ⟨l.n.toArray⟩, .int .i64 l.c, .int .i64 l.rc, .int .i64 l.v, .int .i64 l.d, .int .i64 l.u, .int .i64 l.h] 105) := hZZ
    go_upto_region 6 with fail
    rw [← hZ, ← hzb]
    clear hZ hzb hgz hb3 hb2 hRZ hZZ HLA HR1 HX1 HB1 m0
    have hw9 : IntKind.i64.wrap (l.v + 1) = l.v + 1 := by rw [IntKind.wrap_i64]; omega
    by_cases hl0 : l.v = 0
    · obtain ⟨Z0, hZ0⟩ : ∃ Z0 : World, Z0 = Z := ⟨_, rfl⟩
      have HNM : Hid _ := names_any' me Z HVZ.out hA
      have hl0b : (l.v == 0) = true := by simpa using hl0
      go_wp2_with fail
      refine Calls.mono HNM.out ?_
      rintro e w3 ⟨nv, rfl, hnr, hb4⟩
      obtain ⟨na, nc, hnv, hq9⟩ := own_slice hnr
      subst hnv
      have HXZ' : Hid (Blk w3 xb #[.string ⟨n.toArray⟩, .int .i64 c, .int .i64 rc, .int .i64 1, .int .i64 d, .int .i64 u, .int .i64 h] 105) := HXZ.out.below hb4 HXZ.out.lt
      have HBZ' : Hid (Below w.heap.size w w3) := HBZ.out.trans (hb4.mono HBZ.out.size)
      have HVZ' : Hid (RVw L rb me N (.slice ao A.length cap) A w3) := HV.out.more HBZ'.out
      have hZ3 : Blk w3 zb #[.string ⟨l.n.toArray⟩, .int .i64 l.c, .int .i64 l.rc, .int .i64 l.v, .int .i64 l.d, .int .i64 l.u, .int .i64 l.h] 105 := HZ9.out.below hb4 HZ9.out.lt
      have a1 : w3.cell? ⟨zb, 1, none⟩ = some (.int .i64 l.c) := hZ3.cell 1
      have a3 : w3.cell? ⟨zb, 3, none⟩ = some (.int .i64 l.v) := hZ3.cell 3
      have a9 : w3.cell? ⟨xb, 3, none⟩ = some (.int .i64 1) := HXZ'.out.cell 3
      have hnl9 : (nmsL me A).length ≤ 100000 := Nat.le_trans (nmsL_len _ _) hA
      clear hq9 hnr hb4 HNM hZ3 HXZ HBZ HVZ HR9 HZ9 r0 r1 z1 z2 z3 z4 z5 z6 m2 c3 hZ0 Z0
      generalize (nmsL me A).length = nn at *
      by_cases hfull : 64 ≤ nn
      · have HCD : Hid (CD = 102) := show _ = _ from by rw [HC0.out, if_neg (by simp), if_pos ⟨hl0, hfull⟩]
        have HNX2 : Hid (NX = A) := show _ = _ from by rw [HN0.out, if_neg (by simp), if_pos ⟨hl0, hfull⟩]
        clear HC0 HN0
        go_wp2_with fail
        go_ret
        exact ⟨by rw [HCD.out]; rfl, by rw [HNX2.out]; exact RPost.stay HV.out HBZ'.out⟩
      · have HCD : Hid (CD = 0) := show _ = _ from by rw [HC0.out, if_neg (by simp), if_neg (fun h => hfull h.2)]
        have HNX2 : Hid (NX = A ++ [⟨me, n, c, rc, l.v + 1, d, u, h⟩]) := show _ = _ from by rw [HN0.out, if_neg (by simp), if_neg (fun h => hfull h.2), if_neg (fun h => by have := h.1; omega)]
        have hl1 : ¬ 0 < l.v := by omega
        clear HC0 HN0 hl0
        have fz : w3.frozen? ⟨xb, 3, none⟩ = false := HXZ'.out.frozen 3
        obtain ⟨e2, he2⟩ : ∃ e2 : Ent, e2 = ⟨me, n, c, rc, l.v + 1, d, u, h⟩ := ⟨_, rfl⟩
        obtain ⟨Y, hY⟩ : ∃ Y, Y = w3.setCell ⟨xb, 3, none⟩ (.int .i64 (l.v + 1)) := ⟨_, rfl⟩
        have hYc : Chg (fun k => k = xb) w3 Y := by rw [hY]; exact setCell_chg _ _ _ _
        have hYB : Blk Y xb #[.string ⟨n.toArray⟩, .int .i64 c, .int .i64 rc, .int .i64 (l.v + 1), .int .i64 d, .int .i64 u, .int .i64 h] 105 := by rw [hY]; exact HXZ'.out.set 3 _
        have HVX : Hid (VAt Y xb 0 e2) := show VAt Y xb 0 e2 from by rw [he2]; exact ⟨hYB.cell 0, hYB.cell 1, hYB.cell 2, hYB.cell 3, hYB.cell 4, hYB.cell 5, hYB.cell 6⟩
        have HVY : Hid (RVw L rb me N (.slice ao A.length cap) A Y) := show RVw L rb me N (.slice ao A.length cap) A Y from HVZ'.out.keep (hYc.block _ HVZ'.out.blk.lt HNX.out.1) (fun g hg => hYc.block _ (ownsRow_lt HVZ'.out.row hg).2 (HNX.out.2 g hg))
        have y0 : Y.cell? ⟨rb, 0, none⟩ = some (.int .i64 e2.r) := by rw [he2]; exact HVY.out.c0
        have y2 : Y.cell? ⟨rb, 2, none⟩ = some (.slice ao A.length cap) := HVY.out.c2
        have HCW : Hid (Chg (fun _ => False) w Y) := show Chg (fun _ => False) w Y from ⟨(hYc.os).trans HBZ'.out.os, (hYc.tape).trans HBZ'.out.tape, (hYc.output).trans HBZ'.out.output, Nat.le_trans HBZ'.out.size hYc.size, fun k hk _ => (hYc.block k (Nat.lt_of_lt_of_le hk HBZ'.out.size) (fun e => by have := HXB.out; omega)).trans (HBZ'.out.block k hk)⟩
        have HCK : Hid (∀ wa wb : World, Below wa.heap.size wa wb → (fun wq => wq.cell? ⟨rb, 2, none⟩ = some (.slice ao A.length cap) ∧ wq.cell? ⟨rb, 0, none⟩ = some (.int .i64 e2.r) ∧ VAt wq xb 0 e2) wa → (fun wq => wq.cell? ⟨rb, 2, none⟩ = some (.slice ao A.length cap) ∧ wq.cell? ⟨rb, 0, none⟩ = some (.int .i64 e2.r) ∧ VAt wq xb 0 e2) wb) := fun wa wb hb hh => ⟨cell_below hb hh.1, cell_below hb hh.2.1, hh.2.2.keep (hb.block _ hh.2.2.lt)⟩
        have HE2 : Hid (e2 = ⟨me, n, c, rc, l.v + 1, d, u, h⟩) := he2
        have HSW : Hid (w.heap.size ≤ Y.heap.size) := HCW.out.size
        have HWL : Hid (∀ g, (Value.slice ao A.length cap).ownBlock = some g → g < w.heap.size) := fun g hg => (ownsRow_lt HV.out.row hg).2
        go_upto_region 11 with fail
        rw [← hY]
        clear hY hYB he2 hYc fz
        go_wp2_with fail
        rename_i K hK hz8
        try rw [show ∀ a : Act, a.put none undef = a from fun _ => rfl]
        refine wp_region_mix (fun wq => wq.cell? ⟨rb, 2, none⟩ = some (.slice ao A.length cap) ∧ wq.cell? ⟨rb, 0, none⟩ = some (.int .i64 e2.r) ∧ VAt wq xb 0 e2) (fun i => i == 11 || i == 12 || i == 15) 15 (by kernel_rfl) rfl (by kernel_rfl) (by kernel_rfl) (by kernel_rfl) ?_
        refine withFrP (N := 92) rfl ?_
        intro f0 F0 hff
        have e0 : f0 0 = Value.pointer (some ⟨rb, 0, none⟩) := hff 0
        have e13 : f0 13 = Value.pointer (some ⟨xb, 0, none⟩) := hff 13
        clear hff
        have HCC : (fun wq => wq.cell? ⟨rb, 2, none⟩ = some (.slice ao A.length cap) ∧ wq.cell? ⟨rb, 0, none⟩ = some (.int .i64 e2.r) ∧ VAt wq xb 0 e2) (({ Y with drawn := Y.drawn + 1 } : World)) := ⟨y2, y0, HVX.out.keep rfl⟩
        have HC1 : (fun wq => wq.cell? ⟨rb, 2, none⟩ = some (.slice ao A.length cap) ∧ wq.cell? ⟨rb, 0, none⟩ = some (.int .i64 e2.r) ∧ VAt wq xb 0 e2) ((({ Y with drawn := Y.drawn + 1 } : World)).alloc (.cells #[.int .i64 e2.r, .string ⟨e2.n.toArray⟩, .int .i64 e2.c, .int .i64 e2.rc, .int .i64 e2.v, .int .i64 e2.d, .int .i64 e2.u, .int .i64 e2.h] 150)) := HCK.out _ _ ((Below.refl _ _).alloc (Nat.le_refl _) _) HCC
        refine lyp F0 rfl HCC rfl (by omega) (wanted_none rfl) (v := Value.pointer (some ⟨rb, 0, none⟩)) (fun wr hwr => by simp only [execOp, (F0.eval 0 (by omega)).trans (show _ = Value.pointer (some ⟨rb, 0, none⟩) from by simp [upd, e0, e13])]; first | rfl | simp [go_sem]) fun F1 => ?_
        refine lyp F1 rfl HCC rfl (by omega) (wanted_none rfl) (v := Value.pointer (some ⟨rb, 0, none⟩)) (fun wr hwr => by simp only [execOp, (F1.eval 0 (by omega)).trans (show _ = Value.pointer (some ⟨rb, 0, none⟩) from by simp [upd, e0, e13])]; first | rfl | simp [go_sem]) fun F2 => ?_
        refine lyp F2 rfl HCC rfl (by omega) (wanted_none rfl) (v := Value.pointer (some ⟨rb, 0, none⟩)) (fun wr hwr => by simp only [execOp, (F2.eval 78 (by omega)).trans (show _ = Value.pointer (some ⟨rb, 0, none⟩) from by simp [upd, e0, e13])]; simp [go_sem]) fun F3 => ?_
        refine lyp F3 rfl HCC rfl (by omega) (wanted_none rfl) (v := Value.pointer (some ⟨rb, 2, none⟩)) (fun wr hwr => by simp only [execOp, (F3.eval 79 (by omega)).trans (show _ = Value.pointer (some ⟨rb, 0, none⟩) from by simp [upd, e0, e13])]; simp [go_sem]) fun F4 => ?_
        refine lyp F4 rfl HCC rfl (by omega) (wanted_none rfl) (v := Value.slice ao A.length cap) (fun wr hwr => by simp only [execOp, (F4.eval 80 (by omega)).trans (show _ = Value.pointer (some ⟨rb, 2, none⟩) from by simp [upd, e0, e13])]; simp [go_sem, hwr.1]) fun F5 => ?_
        refine lyp F5 rfl HCC rfl (by omega) (wanted_none rfl) (v := Value.pointer (some ⟨rb, 0, none⟩)) (fun wr hwr => by simp only [execOp, (F5.eval 0 (by omega)).trans (show _ = Value.pointer (some ⟨rb, 0, none⟩) from by simp [upd, e0, e13])]; first | rfl | simp [go_sem]) fun F6 => ?_
        refine lyp F6 rfl HCC rfl (by omega) (wanted_none rfl) (v := Value.pointer (some ⟨rb, 0, none⟩)) (fun wr hwr => by simp only [execOp, (F6.eval 82 (by omega)).trans (show _ = Value.pointer (some ⟨rb, 0, none⟩) from by simp [upd, e0, e13])]; simp [go_sem]) fun F7 => ?_
        refine lyp F7 rfl HCC rfl (by omega) (wanted_none rfl) (v := Value.pointer (some ⟨rb, 0, none⟩)) (fun wr hwr => by simp only [execOp, (F7.eval 83 (by omega)).trans (show _ = Value.pointer (some ⟨rb, 0, none⟩) from by simp [upd, e0, e13])]; simp [go_sem]) fun F8 => ?_
        refine lyp F8 rfl HCC rfl (by omega) (wanted_none rfl) (v := Value.int .i64 e2.r) (fun wr hwr => by simp only [execOp, (F8.eval 84 (by omega)).trans (show _ = Value.pointer (some ⟨rb, 0, none⟩) from by simp [upd, e0, e13])]; simp [go_sem, hwr.2.1]) fun F9 => ?_
        refine lyp F9 rfl HCC rfl (by omega) (wanted_none rfl) (v := Value.agg #[.string ⟨e2.n.toArray⟩, .int .i64 e2.c, .int .i64 e2.rc, .int .i64 e2.v, .int .i64 e2.d, .int .i64 e2.u, .int .i64 e2.h]) (fun wr hwr => by simp only [execOp, (F9.eval 13 (by omega)).trans (show _ = Value.pointer (some ⟨xb, 0, none⟩) from by simp [upd, e0, e13])]; simp [go_sem, hwr.2.2.c0, hwr.2.2.c1, hwr.2.2.c2, hwr.2.2.c3, hwr.2.2.c4, hwr.2.2.c5, hwr.2.2.c6]) fun F10 => ?_
        refine lyp F10 rfl HCC rfl (by omega) (wanted_none rfl) (v := Value.agg #[.int .i64 e2.r, .string ⟨e2.n.toArray⟩, .int .i64 e2.c, .int .i64 e2.rc, .int .i64 e2.v, .int .i64 e2.d, .int .i64 e2.u, .int .i64 e2.h]) (fun wr hwr => by simp only [execOp, List.map_toArray, List.map_cons, List.map_nil, (F10.eval 85 (by omega)).trans (show _ = Value.int .i64 e2.r from by simp [upd, e0, e13]), (F10.eval 86 (by omega)).trans (show _ = Value.agg #[.string ⟨e2.n.toArray⟩, .int .i64 e2.c, .int .i64 e2.rc, .int .i64 e2.v, .int .i64 e2.d, .int .i64 e2.u, .int .i64 e2.h] from by simp [upd, e0, e13])]; simp [go_sem]; try rfl) fun F11 => ?_
        refine lep F11 rfl HCC rfl (by omega) (wanted_none rfl) (v := Value.slice (some ⟨Y.heap.size, 0, none⟩) 1 1) (w1 := (({ Y with drawn := Y.drawn + 1 } : World)).alloc (.cells #[.int .i64 e2.r, .string ⟨e2.n.toArray⟩, .int .i64 e2.c, .int .i64 e2.rc, .int .i64 e2.v, .int .i64 e2.d, .int .i64 e2.u, .int .i64 e2.h] 150)) (by simp only [execOp, List.map_toArray, List.map_cons, List.map_nil, (F11.eval 87 (by omega)).trans (show _ = Value.agg #[.int .i64 e2.r, .string ⟨e2.n.toArray⟩, .int .i64 e2.c, .int .i64 e2.rc, .int .i64 e2.v, .int .i64 e2.d, .int .i64 e2.u, .int .i64 e2.h] from by simp [upd, e0, e13])]; simp [go_sem]) fun F12 => ?_
        obtain ⟨ao5, cap5, w5, hrun, hc5, hz5, hf5, hV5, hch5, hat5⟩ := (show RVw L rb me N (.slice ao A.length cap) A (({ Y with drawn := Y.drawn + 1 } : World)) from HVY.out.keep rfl (fun _ _ => rfl)).push HAL.out e2
        have HC5 : (fun wq => wq.cell? ⟨rb, 2, none⟩ = some (.slice ao A.length cap) ∧ wq.cell? ⟨rb, 0, none⟩ = some (.int .i64 e2.r) ∧ VAt wq xb 0 e2) w5 := ⟨hz5, (by have hB := (show RVw L rb me N (.slice ao A.length cap) A ({ Y with drawn := Y.drawn + 1 } : World) from HVY.out.keep rfl (fun _ _ => rfl)).blk; exact (hc5.blk hB (fun hh => by obtain ⟨cu, hcu⟩ := ownsRow_type HVY.out.row hh; exact Blk.ne_t HVY.out.blk (show Blk Y rb cu 150 from hcu) (by decide) rfl)).cell 0 |>.trans (HVY.out.blk.cell 0).symm |>.trans y0), HVX.out.keep (hc5.block xb HVX.out.lt (fun hh => HNX.out.2 _ hh rfl))⟩
        refine lep F12 rfl HC1 rfl (by omega) (wanted_none rfl) (v := Value.slice ao5 (A.length + 1) cap5) (w1 := w5) (by simp only [execOp, resolve, invoke, builtin, List.map_toArray, List.map_cons, List.map_nil, (F12.eval 81 (by omega)).trans (show _ = Value.slice ao A.length cap from by simp [upd, e0, e13]), (F12.eval 88 (by omega)).trans (show _ = Value.slice (some ⟨Y.heap.size, 0, none⟩) 1 1 from by simp [upd, e0, e13])]; simp only [Sem.run_bind, Sem.run_pure, Result.andThen_ok, show _ = _ from hrun _]; try rfl) fun F13 => ?_
        refine lyp F13 rfl HC5 rfl (by omega) (wanted_none rfl) (v := Value.pointer (some ⟨rb, 0, none⟩)) (fun wr hwr => by simp only [execOp, (F13.eval 77 (by omega)).trans (show _ = Value.pointer (some ⟨rb, 0, none⟩) from by simp [upd, e0, e13])]; simp [go_sem]) fun F14 => ?_
        refine lyp F14 rfl HC5 rfl (by omega) (wanted_none rfl) (v := Value.pointer (some ⟨rb, 2, none⟩)) (fun wr hwr => by simp only [execOp, (F14.eval 90 (by omega)).trans (show _ = Value.pointer (some ⟨rb, 0, none⟩) from by simp [upd, e0, e13])]; simp [go_sem]) fun F15 => ?_
        refine lst rfl HC5 rfl (wanted_none rfl) (w1 := w5.setCell ⟨rb, 2, none⟩ (.slice ao5 (A.length + 1) cap5)) (by simp only [execOp, (F15.eval 91 (by omega)).trans (show _ = Value.pointer (some ⟨rb, 2, none⟩) from by simp [upd, e0, e13]), (F15.eval 89 (by omega)).trans (show _ = Value.slice ao5 (A.length + 1) cap5 from by simp [upd, e0, e13])]; simp [go_sem, hf5, hz5]) ?_
        refine ⟨fun h => by omega, ?_⟩
        refine hK _ _ ?_
        clear F0 F1 F2 F3 F4 F5 F6 F7 F8 F9 F10 F11 F12 F13 F14 F15 e0 e13 HCC HC1 HC5 hz5 hf5 hrun hc5
        simp only [Act.put, List.setIfInBounds_toArray, List.set_cons_succ, List.set_cons_zero]
        go_wp2_with fail
        go_ret
        refine ⟨by rw [HCD.out]; rfl, ?_⟩
        rw [HNX2.out, ← HE2.out]
        refine ⟨⟨_, hV5, fun g hg => (hat5 g hg).imp id (fun hh => Nat.le_trans HSW.out hh)⟩, ?_⟩
        exact (HCW.out.mono (fun _ _ hh => hh.elim)).trans (show Chg (fun k => k = rb ∨ (Value.slice ao A.length cap).ownBlock = some k) Y _ from ⟨hch5.os, hch5.tape, hch5.output, hch5.size, hch5.block⟩) (fun j hj hh => hh)
    · have hlp : 0 < l.v := by omega
      have hl0b : (l.v == 0) = false := by simpa using hl0
      have HCD : Hid (CD = 0) := show _ = _ from by rw [HC0.out, if_neg (by simp), if_neg (fun h => hl0 h.1)]
      by_cases q0 : l.c = c
      · skip
        by_cases q1 : l.rc = rc
        · skip
          by_cases q2 : l.d = d
          · skip
            by_cases q3 : l.u = u
            · skip
              by_cases q4 : l.h = h
              · skip
                have HNX2 : Hid (NX = A) := show _ = _ from by rw [HN0.out, if_neg (by simp), if_neg (fun h => hl0 h.1), if_pos ⟨hlp, q0, q1, q2, q3, q4⟩]
                clear HC0 HN0
                go_wp2_with fail
                go_ret
                exact ⟨by rw [HCD.out]; rfl, by rw [HNX2.out]; exact RPost.stay HV.out HBZ.out⟩
              · have HNX2 : Hid (NX = A ++ [⟨me, n, c, rc, l.v + 1, d, u, h⟩]) := show _ = _ from by rw [HN0.out, if_neg (by simp), if_neg (fun h => hl0 h.1), if_neg (fun h => q4 h.2.2.2.2.2)]
                replace q4 : (l.h == h) = false := by simpa using q4
                clear HC0 HN0
                have fz : Z.frozen? ⟨xb, 3, none⟩ = false := HXZ.out.frozen 3
                obtain ⟨e2, he2⟩ : ∃ e2 : Ent, e2 = ⟨me, n, c, rc, l.v + 1, d, u, h⟩ := ⟨_, rfl⟩
                obtain ⟨Y, hY⟩ : ∃ Y, Y = Z.setCell ⟨xb, 3, none⟩ (.int .i64 (l.v + 1)) := ⟨_, rfl⟩
                have hYc : Chg (fun k => k = xb) Z Y := by rw [hY]; exact setCell_chg _ _ _ _
                have hYB : Blk Y xb #[.string ⟨n.toArray⟩, .int .i64 c, .int .i64 rc, .int .i64 (l.v + 1), .int .i64 d, .int .i64 u, .int .i64 h] 105 := by rw [hY]; exact HXZ.out.set 3 _
                have HVX : Hid (VAt Y xb 0 e2) := show VAt Y xb 0 e2 from by rw [he2]; exact ⟨hYB.cell 0, hYB.cell 1, hYB.cell 2, hYB.cell 3, hYB.cell 4, hYB.cell 5, hYB.cell 6⟩
                have HVY : Hid (RVw L rb me N (.slice ao A.length cap) A Y) := show RVw L rb me N (.slice ao A.length cap) A Y from HVZ.out.keep (hYc.block _ HVZ.out.blk.lt HNX.out.1) (fun g hg => hYc.block _ (ownsRow_lt HVZ.out.row hg).2 (HNX.out.2 g hg))
                have y0 : Y.cell? ⟨rb, 0, none⟩ = some (.int .i64 e2.r) := by rw [he2]; exact HVY.out.c0
                have y2 : Y.cell? ⟨rb, 2, none⟩ = some (.slice ao A.length cap) := HVY.out.c2
                have HCW : Hid (Chg (fun _ => False) w Y) := show Chg (fun _ => False) w Y from ⟨(hYc.os).trans HBZ.out.os, (hYc.tape).trans HBZ.out.tape, (hYc.output).trans HBZ.out.output, Nat.le_trans HBZ.out.size hYc.size, fun k hk _ => (hYc.block k (Nat.lt_of_lt_of_le hk HBZ.out.size) (fun e => by have := HXB.out; omega)).trans (HBZ.out.block k hk)⟩
                have HCK : Hid (∀ wa wb : World, Below wa.heap.size wa wb → (fun wq => wq.cell? ⟨rb, 2, none⟩ = some (.slice ao A.length cap) ∧ wq.cell? ⟨rb, 0, none⟩ = some (.int .i64 e2.r) ∧ VAt wq xb 0 e2) wa → (fun wq => wq.cell? ⟨rb, 2, none⟩ = some (.slice ao A.length cap) ∧ wq.cell? ⟨rb, 0, none⟩ = some (.int .i64 e2.r) ∧ VAt wq xb 0 e2) wb) := fun wa wb hb hh => ⟨cell_below hb hh.1, cell_below hb hh.2.1, hh.2.2.keep (hb.block _ hh.2.2.lt)⟩
                have HE2 : Hid (e2 = ⟨me, n, c, rc, l.v + 1, d, u, h⟩) := he2
                have HSW : Hid (w.heap.size ≤ Y.heap.size) := HCW.out.size
                have HWL : Hid (∀ g, (Value.slice ao A.length cap).ownBlock = some g → g < w.heap.size) := fun g hg => (ownsRow_lt HV.out.row hg).2
                go_upto_region 11 with fail
                rw [← hY]
                clear hY hYB he2 hYc fz
                go_wp2_with fail
                rename_i K hK
                try rw [show ∀ a : Act, a.put none undef = a from fun _ => rfl]
                refine wp_region_mix (fun wq => wq.cell? ⟨rb, 2, none⟩ = some (.slice ao A.length cap) ∧ wq.cell? ⟨rb, 0, none⟩ = some (.int .i64 e2.r) ∧ VAt wq xb 0 e2) (fun i => i == 11 || i == 12 || i == 15) 15 (by kernel_rfl) rfl (by kernel_rfl) (by kernel_rfl) (by kernel_rfl) ?_
                refine withFrP (N := 92) rfl ?_
                intro f0 F0 hff
                have e0 : f0 0 = Value.pointer (some ⟨rb, 0, none⟩) := hff 0
                have e13 : f0 13 = Value.pointer (some ⟨xb, 0, none⟩) := hff 13
                clear hff
                have HCC : (fun wq => wq.cell? ⟨rb, 2, none⟩ = some (.slice ao A.length cap) ∧ wq.cell? ⟨rb, 0, none⟩ = some (.int .i64 e2.r) ∧ VAt wq xb 0 e2) (({ Y with drawn := Y.drawn + 1 } : World)) := ⟨y2, y0, HVX.out.keep rfl⟩
                have HC1 : (fun wq => wq.cell? ⟨rb, 2, none⟩ = some (.slice ao A.length cap) ∧ wq.cell? ⟨rb, 0, none⟩ = some (.int .i64 e2.r) ∧ VAt wq xb 0 e2) ((({ Y with drawn := Y.drawn + 1 } : World)).alloc (.cells #[.int .i64 e2.r, .string ⟨e2.n.toArray⟩, .int .i64 e2.c, .int .i64 e2.rc, .int .i64 e2.v, .int .i64 e2.d, .int .i64 e2.u, .int .i64 e2.h] 150)) := HCK.out _ _ ((Below.refl _ _).alloc (Nat.le_refl _) _) HCC
                refine lyp F0 rfl HCC rfl (by omega) (wanted_none rfl) (v := Value.pointer (some ⟨rb, 0, none⟩)) (fun wr hwr => by simp only [execOp, (F0.eval 0 (by omega)).trans (show _ = Value.pointer (some ⟨rb, 0, none⟩) from by simp [upd, e0, e13])]; first | rfl | simp [go_sem]) fun F1 => ?_
                refine lyp F1 rfl HCC rfl (by omega) (wanted_none rfl) (v := Value.pointer (some ⟨rb, 0, none⟩)) (fun wr hwr => by simp only [execOp, (F1.eval 0 (by omega)).trans (show _ = Value.pointer (some ⟨rb, 0, none⟩) from by simp [upd, e0, e13])]; first | rfl | simp [go_sem]) fun F2 => ?_
                refine lyp F2 rfl HCC rfl (by omega) (wanted_none rfl) (v := Value.pointer (some ⟨rb, 0, none⟩)) (fun wr hwr => by simp only [execOp, (F2.eval 78 (by omega)).trans (show _ = Value.pointer (some ⟨rb, 0, none⟩) from by simp [upd, e0, e13])]; simp [go_sem]) fun F3 => ?_
                refine lyp F3 rfl HCC rfl (by omega) (wanted_none rfl) (v := Value.pointer (some ⟨rb, 2, none⟩)) (fun wr hwr => by simp only [execOp, (F3.eval 79 (by omega)).trans (show _ = Value.pointer (some ⟨rb, 0, none⟩) from by simp [upd, e0, e13])]; simp [go_sem]) fun F4 => ?_
                refine lyp F4 rfl HCC rfl (by omega) (wanted_none rfl) (v := Value.slice ao A.length cap) (fun wr hwr => by simp only [execOp, (F4.eval 80 (by omega)).trans (show _ = Value.pointer (some ⟨rb, 2, none⟩) from by simp [upd, e0, e13])]; simp [go_sem, hwr.1]) fun F5 => ?_
                refine lyp F5 rfl HCC rfl (by omega) (wanted_none rfl) (v := Value.pointer (some ⟨rb, 0, none⟩)) (fun wr hwr => by simp only [execOp, (F5.eval 0 (by omega)).trans (show _ = Value.pointer (some ⟨rb, 0, none⟩) from by simp [upd, e0, e13])]; first | rfl | simp [go_sem]) fun F6 => ?_
                refine lyp F6 rfl HCC rfl (by omega) (wanted_none rfl) (v := Value.pointer (some ⟨rb, 0, none⟩)) (fun wr hwr => by simp only [execOp, (F6.eval 82 (by omega)).trans (show _ = Value.pointer (some ⟨rb, 0, none⟩) from by simp [upd, e0, e13])]; simp [go_sem]) fun F7 => ?_
                refine lyp F7 rfl HCC rfl (by omega) (wanted_none rfl) (v := Value.pointer (some ⟨rb, 0, none⟩)) (fun wr hwr => by simp only [execOp, (F7.eval 83 (by omega)).trans (show _ = Value.pointer (some ⟨rb, 0, none⟩) from by simp [upd, e0, e13])]; simp [go_sem]) fun F8 => ?_
                refine lyp F8 rfl HCC rfl (by omega) (wanted_none rfl) (v := Value.int .i64 e2.r) (fun wr hwr => by simp only [execOp, (F8.eval 84 (by omega)).trans (show _ = Value.pointer (some ⟨rb, 0, none⟩) from by simp [upd, e0, e13])]; simp [go_sem, hwr.2.1]) fun F9 => ?_
                refine lyp F9 rfl HCC rfl (by omega) (wanted_none rfl) (v := Value.agg #[.string ⟨e2.n.toArray⟩, .int .i64 e2.c, .int .i64 e2.rc, .int .i64 e2.v, .int .i64 e2.d, .int .i64 e2.u, .int .i64 e2.h]) (fun wr hwr => by simp only [execOp, (F9.eval 13 (by omega)).trans (show _ = Value.pointer (some ⟨xb, 0, none⟩) from by simp [upd, e0, e13])]; simp [go_sem, hwr.2.2.c0, hwr.2.2.c1, hwr.2.2.c2, hwr.2.2.c3, hwr.2.2.c4, hwr.2.2.c5, hwr.2.2.c6]) fun F10 => ?_
                refine lyp F10 rfl HCC rfl (by omega) (wanted_none rfl) (v := Value.agg #[.int .i64 e2.r, .string ⟨e2.n.toArray⟩, .int .i64 e2.c, .int .i64 e2.rc, .int .i64 e2.v, .int .i64 e2.d, .int .i64 e2.u, .int .i64 e2.h]) (fun wr hwr => by simp only [execOp, List.map_toArray, List.map_cons, List.map_nil, (F10.eval 85 (by omega)).trans (show _ = Value.int .i64 e2.r from by simp [upd, e0, e13]), (F10.eval 86 (by omega)).trans (show _ = Value.agg #[.string ⟨e2.n.toArray⟩, .int .i64 e2.c, .int .i64 e2.rc, .int .i64 e2.v, .int .i64 e2.d, .int .i64 e2.u, .int .i64 e2.h] from by simp [upd, e0, e13])]; simp [go_sem]; try rfl) fun F11 => ?_
                refine lep F11 rfl HCC rfl (by omega) (wanted_none rfl) (v := Value.slice (some ⟨Y.heap.size, 0, none⟩) 1 1) (w1 := (({ Y with drawn := Y.drawn + 1 } : World)).alloc (.cells #[.int .i64 e2.r, .string ⟨e2.n.toArray⟩, .int .i64 e2.c, .int .i64 e2.rc, .int .i64 e2.v, .int .i64 e2.d, .int .i64 e2.u, .int .i64 e2.h] 150)) (by simp only [execOp, List.map_toArray, List.map_cons, List.map_nil, (F11.eval 87 (by omega)).trans (show _ = Value.agg #[.int .i64 e2.r, .string ⟨e2.n.toArray⟩, .int .i64 e2.c, .int .i64 e2.rc, .int .i64 e2.v, .int .i64 e2.d, .int .i64 e2.u, .int .i64 e2.h] from by simp [upd, e0, e13])]; simp [go_sem]) fun F12 => ?_
                obtain ⟨ao5, cap5, w5, hrun, hc5, hz5, hf5, hV5, hch5, hat5⟩ := (show RVw L rb me N (.slice ao A.length cap) A (({ Y with drawn := Y.drawn + 1 } : World)) from HVY.out.keep rfl (fun _ _ => rfl)).push HAL.out e2
                have HC5 : (fun wq => wq.cell? ⟨rb, 2, none⟩ = some (.slice ao A.length cap) ∧ wq.cell? ⟨rb, 0, none⟩ = some (.int .i64 e2.r) ∧ VAt wq xb 0 e2) w5 := ⟨hz5, (by have hB := (show RVw L rb me N (.slice ao A.length cap) A ({ Y with drawn := Y.drawn + 1 } : World) from HVY.out.keep rfl (fun _ _ => rfl)).blk; exact (hc5.blk hB (fun hh => by obtain ⟨cu, hcu⟩ := ownsRow_type HVY.out.row hh; exact Blk.ne_t HVY.out.blk (show Blk Y rb cu 150 from hcu) (by decide) rfl)).cell 0 |>.trans (HVY.out.blk.cell 0).symm |>.trans y0), HVX.out.keep (hc5.block xb HVX.out.lt (fun hh => HNX.out.2 _ hh rfl))⟩
                refine lep F12 rfl HC1 rfl (by omega) (wanted_none rfl) (v := Value.slice ao5 (A.length + 1) cap5) (w1 := w5) (by simp only [execOp, resolve, invoke, builtin, List.map_toArray, List.map_cons, List.map_nil, (F12.eval 81 (by omega)).trans (show _ = Value.slice ao A.length cap from by simp [upd, e0, e13]), (F12.eval 88 (by omega)).trans (show _ = Value.slice (some ⟨Y.heap.size, 0, none⟩) 1 1 from by simp [upd, e0, e13])]; simp only [Sem.run_bind, Sem.run_pure, Result.andThen_ok, show _ = _ from hrun _]; try rfl) fun F13 => ?_
                refine lyp F13 rfl HC5 rfl (by omega) (wanted_none rfl) (v := Value.pointer (some ⟨rb, 0, none⟩)) (fun wr hwr => by simp only [execOp, (F13.eval 77 (by omega)).trans (show _ = Value.pointer (some ⟨rb, 0, none⟩) from by simp [upd, e0, e13])]; simp [go_sem]) fun F14 => ?_
                refine lyp F14 rfl HC5 rfl (by omega) (wanted_none rfl) (v := Value.pointer (some ⟨rb, 2, none⟩)) (fun wr hwr => by simp only [execOp, (F14.eval 90 (by omega)).trans (show _ = Value.pointer (some ⟨rb, 0, none⟩) from by simp [upd, e0, e13])]; simp [go_sem]) fun F15 => ?_
                refine lst rfl HC5 rfl (wanted_none rfl) (w1 := w5.setCell ⟨rb, 2, none⟩ (.slice ao5 (A.length + 1) cap5)) (by simp only [execOp, (F15.eval 91 (by omega)).trans (show _ = Value.pointer (some ⟨rb, 2, none⟩) from by simp [upd, e0, e13]), (F15.eval 89 (by omega)).trans (show _ = Value.slice ao5 (A.length + 1) cap5 from by simp [upd, e0, e13])]; simp [go_sem, hf5, hz5]) ?_
                refine ⟨fun h => by omega, ?_⟩
                refine hK _ _ ?_
                clear F0 F1 F2 F3 F4 F5 F6 F7 F8 F9 F10 F11 F12 F13 F14 F15 e0 e13 HCC HC1 HC5 hz5 hf5 hrun hc5
                simp only [Act.put, List.setIfInBounds_toArray, List.set_cons_succ, List.set_cons_zero]
                go_wp2_with fail
                go_ret
                refine ⟨by rw [HCD.out]; rfl, ?_⟩
                rw [HNX2.out, ← HE2.out]
                refine ⟨⟨_, hV5, fun g hg => (hat5 g hg).imp id (fun hh => Nat.le_trans HSW.out hh)⟩, ?_⟩
                exact (HCW.out.mono (fun _ _ hh => hh.elim)).trans (show Chg (fun k => k = rb ∨ (Value.slice ao A.length cap).ownBlock = some k) Y _ from ⟨hch5.os, hch5.tape, hch5.output, hch5.size, hch5.block⟩) (fun j hj hh => hh)
            · have HNX2 : Hid (NX = A ++ [⟨me, n, c, rc, l.v + 1, d, u, h⟩]) := show _ = _ from by rw [HN0.out, if_neg (by simp), if_neg (fun h => hl0 h.1), if_neg (fun h => q3 h.2.2.2.2.1)]
              replace q3 : (l.u == u) = false := by simpa using q3
              clear HC0 HN0
              have fz : Z.frozen? ⟨xb, 3, none⟩ = false := HXZ.out.frozen 3
              obtain ⟨e2, he2⟩ : ∃ e2 : Ent, e2 = ⟨me, n, c, rc, l.v + 1, d, u, h⟩ := ⟨_, rfl⟩
              obtain ⟨Y, hY⟩ : ∃ Y, Y = Z.setCell ⟨xb, 3, none⟩ (.int .i64 (l.v + 1)) := ⟨_, rfl⟩
              have hYc : Chg (fun k => k = xb) Z Y := by rw [hY]; exact setCell_chg _ _ _ _
              have hYB : Blk Y xb #[.string ⟨n.toArray⟩, .int .i64 c, .int .i64 rc, .int .i64 (l.v + 1), .int .i64 d, .int .i64 u, .int .i64 h] 105 := by rw [hY]; exact HXZ.out.set 3 _
              have HVX : Hid (VAt Y xb 0 e2) := show VAt Y xb 0 e2 from by rw [he2]; exact ⟨hYB.cell 0, hYB.cell 1, hYB.cell 2, hYB.cell 3, hYB.cell 4, hYB.cell 5, hYB.cell 6⟩
              have HVY : Hid (RVw L rb me N (.slice ao A.length cap) A Y) := show RVw L rb me N (.slice ao A.length cap) A Y from HVZ.out.keep (hYc.block _ HVZ.out.blk.lt HNX.out.1) (fun g hg => hYc.block _ (ownsRow_lt HVZ.out.row hg).2 (HNX.out.2 g hg))
              have y0 : Y.cell? ⟨rb, 0, none⟩ = some (.int .i64 e2.r) := by rw [he2]; exact HVY.out.c0
              have y2 : Y.cell? ⟨rb, 2, none⟩ = some (.slice ao A.length cap) := HVY.out.c2
              have HCW : Hid (Chg (fun _ => False) w Y) := show Chg (fun _ => False) w Y from ⟨(hYc.os).trans HBZ.out.os, (hYc.tape).trans HBZ.out.tape, (hYc.output).trans HBZ.out.output, Nat.le_trans HBZ.out.size hYc.size, fun k hk _ => (hYc.block k (Nat.lt_of_lt_of_le hk HBZ.out.size) (fun e => by have := HXB.out; omega)).trans (HBZ.out.block k hk)⟩
              have HCK : Hid (∀ wa wb : World, Below wa.heap.size wa wb → (fun wq => wq.cell? ⟨rb, 2, none⟩ = some (.slice ao A.length cap) ∧ wq.cell? ⟨rb, 0, none⟩ = some (.int .i64 e2.r) ∧ VAt wq xb 0 e2) wa → (fun wq => wq.cell? ⟨rb, 2, none⟩ = some (.slice ao A.length cap) ∧ wq.cell? ⟨rb, 0, none⟩ = some (.int .i64 e2.r) ∧ VAt wq xb 0 e2) wb) := fun wa wb hb hh => ⟨cell_below hb hh.1, cell_below hb hh.2.1, hh.2.2.keep (hb.block _ hh.2.2.lt)⟩
              have HE2 : Hid (e2 = ⟨me, n, c, rc, l.v + 1, d, u, h⟩) := he2
              have HSW : Hid (w.heap.size ≤ Y.heap.size) := HCW.out.size
              have HWL : Hid (∀ g, (Value.slice ao A.length cap).ownBlock = some g → g < w.heap.size) := fun g hg => (ownsRow_lt HV.out.row hg).2
              go_upto_region 11 with fail
              rw [← hY]
              clear hY hYB he2 hYc fz
              go_wp2_with fail
              rename_i K hK
              try rw [show ∀ a : Act, a.put none undef = a from fun _ => rfl]
              refine wp_region_mix (fun wq => wq.cell? ⟨rb, 2, none⟩ = some (.slice ao A.length cap) ∧ wq.cell? ⟨rb, 0, none⟩ = some (.int .i64 e2.r) ∧ VAt wq xb 0 e2) (fun i => i == 11 || i == 12 || i == 15) 15 (by kernel_rfl) rfl (by kernel_rfl) (by kernel_rfl) (by kernel_rfl) ?_
              refine withFrP (N := 92) rfl ?_
              intro f0 F0 hff
              have e0 : f0 0 = Value.pointer (some ⟨rb, 0, none⟩) := hff 0
              have e13 : f0 13 = Value.pointer (some ⟨xb, 0, none⟩) := hff 13
              clear hff
              have HCC : (fun wq => wq.cell? ⟨rb, 2, none⟩ = some (.slice ao A.length cap) ∧ wq.cell? ⟨rb, 0, none⟩ = some (.int .i64 e2.r) ∧ VAt wq xb 0 e2) (({ Y with drawn := Y.drawn + 1 } : World)) := ⟨y2, y0, HVX.out.keep rfl⟩
              have HC1 : (fun wq => wq.cell? ⟨rb, 2, none⟩ = some (.slice ao A.length cap) ∧ wq.cell? ⟨rb, 0, none⟩ = some (.int .i64 e2.r) ∧ VAt wq xb 0 e2) ((({ Y with drawn := Y.drawn + 1 } : World)).alloc (.cells #[.int .i64 e2.r, .string ⟨e2.n.toArray⟩, .int .i64 e2.c, .int .i64 e2.rc, .int .i64 e2.v, .int .i64 e2.d, .int .i64 e2.u, .int .i64 e2.h] 150)) := HCK.out _ _ ((Below.refl _ _).alloc (Nat.le_refl _) _) HCC
              refine lyp F0 rfl HCC rfl (by omega) (wanted_none rfl) (v := Value.pointer (some ⟨rb, 0, none⟩)) (fun wr hwr => by simp only [execOp, (F0.eval 0 (by omega)).trans (show _ = Value.pointer (some ⟨rb, 0, none⟩) from by simp [upd, e0, e13])]; first | rfl | simp [go_sem]) fun F1 => ?_
              refine lyp F1 rfl HCC rfl (by omega) (wanted_none rfl) (v := Value.pointer (some ⟨rb, 0, none⟩)) (fun wr hwr => by simp only [execOp, (F1.eval 0 (by omega)).trans (show _ = Value.pointer (some ⟨rb, 0, none⟩) from by simp [upd, e0, e13])]; first | rfl | simp [go_sem]) fun F2 => ?_
              refine lyp F2 rfl HCC rfl (by omega) (wanted_none rfl) (v := Value.pointer (some ⟨rb, 0, none⟩)) (fun wr hwr => by simp only [execOp, (F2.eval 78 (by omega)).trans (show _ = Value.pointer (some ⟨rb, 0, none⟩) from by simp [upd, e0, e13])]; simp [go_sem]) fun F3 => ?_
              refine lyp F3 rfl HCC rfl (by omega) (wanted_none rfl) (v := Value.pointer (some ⟨rb, 2, none⟩)) (fun wr hwr => by simp only [execOp, (F3.eval 79 (by omega)).trans (show _ = Value.pointer (some ⟨rb, 0, none⟩) from by simp [upd, e0, e13])]; simp [go_sem]) fun F4 => ?_
              refine lyp F4 rfl HCC rfl (by omega) (wanted_none rfl) (v := Value.slice ao A.length cap) (fun wr hwr => by simp only [execOp, (F4.eval 80 (by omega)).trans (show _ = Value.pointer (some ⟨rb, 2, none⟩) from by simp [upd, e0, e13])]; simp [go_sem, hwr.1]) fun F5 => ?_
              refine lyp F5 rfl HCC rfl (by omega) (wanted_none rfl) (v := Value.pointer (some ⟨rb, 0, none⟩)) (fun wr hwr => by simp only [execOp, (F5.eval 0 (by omega)).trans (show _ = Value.pointer (some ⟨rb, 0, none⟩) from by simp [upd, e0, e13])]; first | rfl | simp [go_sem]) fun F6 => ?_
              refine lyp F6 rfl HCC rfl (by omega) (wanted_none rfl) (v := Value.pointer (some ⟨rb, 0, none⟩)) (fun wr hwr => by simp only [execOp, (F6.eval 82 (by omega)).trans (show _ = Value.pointer (some ⟨rb, 0, none⟩) from by simp [upd, e0, e13])]; simp [go_sem]) fun F7 => ?_
              refine lyp F7 rfl HCC rfl (by omega) (wanted_none rfl) (v := Value.pointer (some ⟨rb, 0, none⟩)) (fun wr hwr => by simp only [execOp, (F7.eval 83 (by omega)).trans (show _ = Value.pointer (some ⟨rb, 0, none⟩) from by simp [upd, e0, e13])]; simp [go_sem]) fun F8 => ?_
              refine lyp F8 rfl HCC rfl (by omega) (wanted_none rfl) (v := Value.int .i64 e2.r) (fun wr hwr => by simp only [execOp, (F8.eval 84 (by omega)).trans (show _ = Value.pointer (some ⟨rb, 0, none⟩) from by simp [upd, e0, e13])]; simp [go_sem, hwr.2.1]) fun F9 => ?_
              refine lyp F9 rfl HCC rfl (by omega) (wanted_none rfl) (v := Value.agg #[.string ⟨e2.n.toArray⟩, .int .i64 e2.c, .int .i64 e2.rc, .int .i64 e2.v, .int .i64 e2.d, .int .i64 e2.u, .int .i64 e2.h]) (fun wr hwr => by simp only [execOp, (F9.eval 13 (by omega)).trans (show _ = Value.pointer (some ⟨xb, 0, none⟩) from by simp [upd, e0, e13])]; simp [go_sem, hwr.2.2.c0, hwr.2.2.c1, hwr.2.2.c2, hwr.2.2.c3, hwr.2.2.c4, hwr.2.2.c5, hwr.2.2.c6]) fun F10 => ?_
              refine lyp F10 rfl HCC rfl (by omega) (wanted_none rfl) (v := Value.agg #[.int .i64 e2.r, .string ⟨e2.n.toArray⟩, .int .i64 e2.c, .int .i64 e2.rc, .int .i64 e2.v, .int .i64 e2.d, .int .i64 e2.u, .int .i64 e2.h]) (fun wr hwr => by simp only [execOp, List.map_toArray, List.map_cons, List.map_nil, (F10.eval 85 (by omega)).trans (show _ = Value.int .i64 e2.r from by simp [upd, e0, e13]), (F10.eval 86 (by omega)).trans (show _ = Value.agg #[.string ⟨e2.n.toArray⟩, .int .i64 e2.c, .int .i64 e2.rc, .int .i64 e2.v, .int .i64 e2.d, .int .i64 e2.u, .int .i64 e2.h] from by simp [upd, e0, e13])]; simp [go_sem]; try rfl) fun F11 => ?_
              refine lep F11 rfl HCC rfl (by omega) (wanted_none rfl) (v := Value.slice (some ⟨Y.heap.size, 0, none⟩) 1 1) (w1 := (({ Y with drawn := Y.drawn + 1 } : World)).alloc (.cells #[.int .i64 e2.r, .string ⟨e2.n.toArray⟩, .int .i64 e2.c, .int .i64 e2.rc, .int .i64 e2.v, .int .i64 e2.d, .int .i64 e2.u, .int .i64 e2.h] 150)) (by simp only [execOp, List.map_toArray, List.map_cons, List.map_nil, (F11.eval 87 (by omega)).trans (show _ = Value.agg #[.int .i64 e2.r, .string ⟨e2.n.toArray⟩, .int .i64 e2.c, .int .i64 e2.rc, .int .i64 e2.v, .int .i64 e2.d, .int .i64 e2.u, .int .i64 e2.h] from by simp [upd, e0, e13])]; simp [go_sem]) fun F12 => ?_
              obtain ⟨ao5, cap5, w5, hrun, hc5, hz5, hf5, hV5, hch5, hat5⟩ := (show RVw L rb me N (.slice ao A.length cap) A (({ Y with drawn := Y.drawn + 1 } : World)) from HVY.out.keep rfl (fun _ _ => rfl)).push HAL.out e2
              have HC5 : (fun wq => wq.cell? ⟨rb, 2, none⟩ = some (.slice ao A.length cap) ∧ wq.cell? ⟨rb, 0, none⟩ = some (.int .i64 e2.r) ∧ VAt wq xb 0 e2) w5 := ⟨hz5, (by have hB := (show RVw L rb me N (.slice ao A.length cap) A ({ Y with drawn := Y.drawn + 1 } : World) from HVY.out.keep rfl (fun _ _ => rfl)).blk; exact (hc5.blk hB (fun hh => by obtain ⟨cu, hcu⟩ := ownsRow_type HVY.out.row hh; exact Blk.ne_t HVY.out.blk (show Blk Y rb cu 150 from hcu) (by decide) rfl)).cell 0 |>.trans (HVY.out.blk.cell 0).symm |>.trans y0), HVX.out.keep (hc5.block xb HVX.out.lt (fun hh => HNX.out.2 _ hh rfl))⟩
              refine lep F12 rfl HC1 rfl (by omega) (wanted_none rfl) (v := Value.slice ao5 (A.length + 1) cap5) (w1 := w5) (by simp only [execOp, resolve, invoke, builtin, List.map_toArray, List.map_cons, List.map_nil, (F12.eval 81 (by omega)).trans (show _ = Value.slice ao A.length cap from by simp [upd, e0, e13]), (F12.eval 88 (by omega)).trans (show _ = Value.slice (some ⟨Y.heap.size, 0, none⟩) 1 1 from by simp [upd, e0, e13])]; simp only [Sem.run_bind, Sem.run_pure, Result.andThen_ok, show _ = _ from hrun _]; try rfl) fun F13 => ?_
              refine lyp F13 rfl HC5 rfl (by omega) (wanted_none rfl) (v := Value.pointer (some ⟨rb, 0, none⟩)) (fun wr hwr => by simp only [execOp, (F13.eval 77 (by omega)).trans (show _ = Value.pointer (some ⟨rb, 0, none⟩) from by simp [upd, e0, e13])]; simp [go_sem]) fun F14 => ?_
              refine lyp F14 rfl HC5 rfl (by omega) (wanted_none rfl) (v := Value.pointer (some ⟨rb, 2, none⟩)) (fun wr hwr => by simp only [execOp, (F14.eval 90 (by omega)).trans (show _ = Value.pointer (some ⟨rb, 0, none⟩) from by simp [upd, e0, e13])]; simp [go_sem]) fun F15 => ?_
              refine lst rfl HC5 rfl (wanted_none rfl) (w1 := w5.setCell ⟨rb, 2, none⟩ (.slice ao5 (A.length + 1) cap5)) (by simp only [execOp, (F15.eval 91 (by omega)).trans (show _ = Value.pointer (some ⟨rb, 2, none⟩) from by simp [upd, e0, e13]), (F15.eval 89 (by omega)).trans (show _ = Value.slice ao5 (A.length + 1) cap5 from by simp [upd, e0, e13])]; simp [go_sem, hf5, hz5]) ?_
              refine ⟨fun h => by omega, ?_⟩
              refine hK _ _ ?_
              clear F0 F1 F2 F3 F4 F5 F6 F7 F8 F9 F10 F11 F12 F13 F14 F15 e0 e13 HCC HC1 HC5 hz5 hf5 hrun hc5
              simp only [Act.put, List.setIfInBounds_toArray, List.set_cons_succ, List.set_cons_zero]
              go_wp2_with fail
              go_ret
              refine ⟨by rw [HCD.out]; rfl, ?_⟩
              rw [HNX2.out, ← HE2.out]
              refine ⟨⟨_, hV5, fun g hg => (hat5 g hg).imp id (fun hh => Nat.le_trans HSW.out hh)⟩, ?_⟩
              exact (HCW.out.mono (fun _ _ hh => hh.elim)).trans (show Chg (fun k => k = rb ∨ (Value.slice ao A.length cap).ownBlock = some k) Y _ from ⟨hch5.os, hch5.tape, hch5.output, hch5.size, hch5.block⟩) (fun j hj hh => hh)
          · have HNX2 : Hid (NX = A ++ [⟨me, n, c, rc, l.v + 1, d, u, h⟩]) := show _ = _ from by rw [HN0.out, if_neg (by simp), if_neg (fun h => hl0 h.1), if_neg (fun h => q2 h.2.2.2.1)]
            replace q2 : (l.d == d) = false := by simpa using q2
            clear HC0 HN0
            have fz : Z.frozen? ⟨xb, 3, none⟩ = false := HXZ.out.frozen 3
            obtain ⟨e2, he2⟩ : ∃ e2 : Ent, e2 = ⟨me, n, c, rc, l.v + 1, d, u, h⟩ := ⟨_, rfl⟩
            obtain ⟨Y, hY⟩ : ∃ Y, Y = Z.setCell ⟨xb, 3, none⟩ (.int .i64 (l.v + 1)) := ⟨_, rfl⟩
            have hYc : Chg (fun k => k = xb) Z Y := by rw [hY]; exact setCell_chg _ _ _ _
            have hYB : Blk Y xb #[.string ⟨n.toArray⟩, .int .i64 c, .int .i64 rc, .int .i64 (l.v + 1), .int .i64 d, .int .i64 u, .int .i64 h] 105 := by rw [hY]; exact HXZ.out.set 3 _
            have HVX : Hid (VAt Y xb 0 e2) := show VAt Y xb 0 e2 from by rw [he2]; exact ⟨hYB.cell 0, hYB.cell 1, hYB.cell 2, hYB.cell 3, hYB.cell 4, hYB.cell 5, hYB.cell 6⟩
            have HVY : Hid (RVw L rb me N (.slice ao A.length cap) A Y) := show RVw L rb me N (.slice ao A.length cap) A Y from HVZ.out.keep (hYc.block _ HVZ.out.blk.lt HNX.out.1) (fun g hg => hYc.block _ (ownsRow_lt HVZ.out.row hg).2 (HNX.out.2 g hg))
            have y0 : Y.cell? ⟨rb, 0, none⟩ = some (.int .i64 e2.r) := by rw [he2]; exact HVY.out.c0
            have y2 : Y.cell? ⟨rb, 2, none⟩ = some (.slice ao A.length cap) := HVY.out.c2
            have HCW : Hid (Chg (fun _ => False) w Y) := show Chg (fun _ => False) w Y from ⟨(hYc.os).trans HBZ.out.os, (hYc.tape).trans HBZ.out.tape, (hYc.output).trans HBZ.out.output, Nat.le_trans HBZ.out.size hYc.size, fun k hk _ => (hYc.block k (Nat.lt_of_lt_of_le hk HBZ.out.size) (fun e => by have := HXB.out; omega)).trans (HBZ.out.block k hk)⟩
            have HCK : Hid (∀ wa wb : World, Below wa.heap.size wa wb → (fun wq => wq.cell? ⟨rb, 2, none⟩ = some (.slice ao A.length cap) ∧ wq.cell? ⟨rb, 0, none⟩ = some (.int .i64 e2.r) ∧ VAt wq xb 0 e2) wa → (fun wq => wq.cell? ⟨rb, 2, none⟩ = some (.slice ao A.length cap) ∧ wq.cell? ⟨rb, 0, none⟩ = some (.int .i64 e2.r) ∧ VAt wq xb 0 e2) wb) := fun wa wb hb hh => ⟨cell_below hb hh.1, cell_below hb hh.2.1, hh.2.2.keep (hb.block _ hh.2.2.lt)⟩
            have HE2 : Hid (e2 = ⟨me, n, c, rc, l.v + 1, d, u, h⟩) := he2
            have HSW : Hid (w.heap.size ≤ Y.heap.size) := HCW.out.size
            have HWL : Hid (∀ g, (Value.slice ao A.length cap).ownBlock = some g → g < w.heap.size) := fun g hg => (ownsRow_lt HV.out.row hg).2
            go_upto_region 11 with fail
            rw [← hY]
            clear hY hYB he2 hYc fz
            go_wp2_with fail
            rename_i K hK
            try rw [show ∀ a : Act, a.put none undef = a from fun _ => rfl]
            refine wp_region_mix (fun wq => wq.cell? ⟨rb, 2, none⟩ = some (.slice ao A.length cap) ∧ wq.cell? ⟨rb, 0, none⟩ = some (.int .i64 e2.r) ∧ VAt wq xb 0 e2) (fun i => i == 11 || i == 12 || i == 15) 15 (by kernel_rfl) rfl (by kernel_rfl) (by kernel_rfl) (by kernel_rfl) ?_
            refine withFrP (N := 92) rfl ?_
            intro f0 F0 hff
            have e0 : f0 0 = Value.pointer (some ⟨rb, 0, none⟩) := hff 0
            have e13 : f0 13 = Value.pointer (some ⟨xb, 0, none⟩) := hff 13
            clear hff
            have HCC : (fun wq => wq.cell? ⟨rb, 2, none⟩ = some (.slice ao A.length cap) ∧ wq.cell? ⟨rb, 0, none⟩ = some (.int .i64 e2.r) ∧ VAt wq xb 0 e2) (({ Y with drawn := Y.drawn + 1 } : World)) := ⟨y2, y0, HVX.out.keep rfl⟩
            have HC1 : (fun wq => wq.cell? ⟨rb, 2, none⟩ = some (.slice ao A.length cap) ∧ wq.cell? ⟨rb, 0, none⟩ = some (.int .i64 e2.r) ∧ VAt wq xb 0 e2) ((({ Y with drawn := Y.drawn + 1 } : World)).alloc (.cells #[.int .i64 e2.r, .string ⟨e2.n.toArray⟩, .int .i64 e2.c, .int .i64 e2.rc, .int .i64 e2.v, .int .i64 e2.d, .int .i64 e2.u, .int .i64 e2.h] 150)) := HCK.out _ _ ((Below.refl _ _).alloc (Nat.le_refl _) _) HCC
            refine lyp F0 rfl HCC rfl (by omega) (wanted_none rfl) (v := Value.pointer (some ⟨rb, 0, none⟩)) (fun wr hwr => by simp only [execOp, (F0.eval 0 (by omega)).trans (show _ = Value.pointer (some ⟨rb, 0, none⟩) from by simp [upd, e0, e13])]; first | rfl | simp [go_sem]) fun F1 => ?_
            refine lyp F1 rfl HCC rfl (by omega) (wanted_none rfl) (v := Value.pointer (some ⟨rb, 0, none⟩)) (fun wr hwr => by simp only [execOp, (F1.eval 0 (by omega)).trans (show _ = Value.pointer (some ⟨rb, 0, none⟩) from by simp [upd, e0, e13])]; first | rfl | simp [go_sem]) fun F2 => ?_
            refine lyp F2 rfl HCC rfl (by omega) (wanted_none rfl) (v := Value.pointer (some ⟨rb, 0, none⟩)) (fun wr hwr => by simp only [execOp, (F2.eval 78 (by omega)).trans (show _ = Value.pointer (some ⟨rb, 0, none⟩) from by simp [upd, e0, e13])]; simp [go_sem]) fun F3 => ?_
            refine lyp F3 rfl HCC rfl (by omega) (wanted_none rfl) (v := Value.pointer (some ⟨rb, 2, none⟩)) (fun wr hwr => by simp only [execOp, (F3.eval 79 (by omega)).trans (show _ = Value.pointer (some ⟨rb, 0, none⟩) from by simp [upd, e0, e13])]; simp [go_sem]) fun F4 => ?_
            refine lyp F4 rfl HCC rfl (by omega) (wanted_none rfl) (v := Value.slice ao A.length cap) (fun wr hwr => by simp only [execOp, (F4.eval 80 (by omega)).trans (show _ = Value.pointer (some ⟨rb, 2, none⟩) from by simp [upd, e0, e13])]; simp [go_sem, hwr.1]) fun F5 => ?_
            refine lyp F5 rfl HCC rfl (by omega) (wanted_none rfl) (v := Value.pointer (some ⟨rb, 0, none⟩)) (fun wr hwr => by simp only [execOp, (F5.eval 0 (by omega)).trans (show _ = Value.pointer (some ⟨rb, 0, none⟩) from by simp [upd, e0, e13])]; first | rfl | simp [go_sem]) fun F6 => ?_
            refine lyp F6 rfl HCC rfl (by omega) (wanted_none rfl) (v := Value.pointer (some ⟨rb, 0, none⟩)) (fun wr hwr => by simp only [execOp, (F6.eval 82 (by omega)).trans (show _ = Value.pointer (some ⟨rb, 0, none⟩) from by simp [upd, e0, e13])]; simp [go_sem]) fun F7 => ?_
            refine lyp F7 rfl HCC rfl (by omega) (wanted_none rfl) (v := Value.pointer (some ⟨rb, 0, none⟩)) (fun wr hwr => by simp only [execOp, (F7.eval 83 (by omega)).trans (show _ = Value.pointer (some ⟨rb, 0, none⟩) from by simp [upd, e0, e13])]; simp [go_sem]) fun F8 => ?_
            refine lyp F8 rfl HCC rfl (by omega) (wanted_none rfl) (v := Value.int .i64 e2.r) (fun wr hwr => by simp only [execOp, (F8.eval 84 (by omega)).trans (show _ = Value.pointer (some ⟨rb, 0, none⟩) from by simp [upd, e0, e13])]; simp [go_sem, hwr.2.1]) fun F9 => ?_
            refine lyp F9 rfl HCC rfl (by omega) (wanted_none rfl) (v := Value.agg #[.string ⟨e2.n.toArray⟩, .int .i64 e2.c, .int .i64 e2.rc, .int .i64 e2.v, .int .i64 e2.d, .int .i64 e2.u, .int .i64 e2.h]) (fun wr hwr => by simp only [execOp, (F9.eval 13 (by omega)).trans (show _ = Value.pointer (some ⟨xb, 0, none⟩) from by simp [upd, e0, e13])]; simp [go_sem, hwr.2.2.c0, hwr.2.2.c1, hwr.2.2.c2, hwr.2.2.c3, hwr.2.2.c4, hwr.2.2.c5, hwr.2.2.c6]) fun F10 => ?_
            refine lyp F10 rfl HCC rfl (by omega) (wanted_none rfl) (v := Value.agg #[.int .i64 e2.r, .string ⟨e2.n.toArray⟩, .int .i64 e2.c, .int .i64 e2.rc, .int .i64 e2.v, .int .i64 e2.d, .int .i64 e2.u, .int .i64 e2.h]) (fun wr hwr => by simp only [execOp, List.map_toArray, List.map_cons, List.map_nil, (F10.eval 85 (by omega)).trans (show _ = Value.int .i64 e2.r from by simp [upd, e0, e13]), (F10.eval 86 (by omega)).trans (show _ = Value.agg #[.string ⟨e2.n.toArray⟩, .int .i64 e2.c, .int .i64 e2.rc, .int .i64 e2.v, .int .i64 e2.d, .int .i64 e2.u, .int .i64 e2.h] from by simp [upd, e0, e13])]; simp [go_sem]; try rfl) fun F11 => ?_
            refine lep F11 rfl HCC rfl (by omega) (wanted_none rfl) (v := Value.slice (some ⟨Y.heap.size, 0, none⟩) 1 1) (w1 := (({ Y with drawn := Y.drawn + 1 } : World)).alloc (.cells #[.int .i64 e2.r, .string ⟨e2.n.toArray⟩, .int .i64 e2.c, .int .i64 e2.rc, .int .i64 e2.v, .int .i64 e2.d, .int .i64 e2.u, .int .i64 e2.h] 150)) (by simp only [execOp, List.map_toArray, List.map_cons, List.map_nil, (F11.eval 87 (by omega)).trans (show _ = Value.agg #[.int .i64 e2.r, .string ⟨e2.n.toArray⟩, .int .i64 e2.c, .int .i64 e2.rc, .int .i64 e2.v, .int .i64 e2.d, .int .i64 e2.u, .int .i64 e2.h] from by simp [upd, e0, e13])]; simp [go_sem]) fun F12 => ?_
            obtain ⟨ao5, cap5, w5, hrun, hc5, hz5, hf5, hV5, hch5, hat5⟩ := (show RVw L rb me N (.slice ao A.length cap) A (({ Y with drawn := Y.drawn + 1 } : World)) from HVY.out.keep rfl (fun _ _ => rfl)).push HAL.out e2
            have HC5 : (fun wq => wq.cell? ⟨rb, 2, none⟩ = some (.slice ao A.length cap) ∧ wq.cell? ⟨rb, 0, none⟩ = some (.int .i64 e2.r) ∧ VAt wq xb 0 e2) w5 := ⟨hz5, (by have hB := (show RVw L rb me N (.slice ao A.length cap) A ({ Y with drawn := Y.drawn + 1 } : World) from HVY.out.keep rfl (fun _ _ => rfl)).blk; exact (hc5.blk hB (fun hh => by obtain ⟨cu, hcu⟩ := ownsRow_type HVY.out.row hh; exact Blk.ne_t HVY.out.blk (show Blk Y rb cu 150 from hcu) (by decide) rfl)).cell 0 |>.trans (HVY.out.blk.cell 0).symm |>.trans y0), HVX.out.keep (hc5.block xb HVX.out.lt (fun hh => HNX.out.2 _ hh rfl))⟩
            refine lep F12 rfl HC1 rfl (by omega) (wanted_none rfl) (v := Value.slice ao5 (A.length + 1) cap5) (w1 := w5) (by simp only [execOp, resolve, invoke, builtin, List.map_toArray, List.map_cons, List.map_nil, (F12.eval 81 (by omega)).trans (show _ = Value.slice ao A.length cap from by simp [upd, e0, e13]), (F12.eval 88 (by omega)).trans (show _ = Value.slice (some ⟨Y.heap.size, 0, none⟩) 1 1 from by simp [upd, e0, e13])]; simp only [Sem.run_bind, Sem.run_pure, Result.andThen_ok, show _ = _ from hrun _]; try rfl) fun F13 => ?_
            refine lyp F13 rfl HC5 rfl (by omega) (wanted_none rfl) (v := Value.pointer (some ⟨rb, 0, none⟩)) (fun wr hwr => by simp only [execOp, (F13.eval 77 (by omega)).trans (show _ = Value.pointer (some ⟨rb, 0, none⟩) from by simp [upd, e0, e13])]; simp [go_sem]) fun F14 => ?_
            refine lyp F14 rfl HC5 rfl (by omega) (wanted_none rfl) (v := Value.pointer (some ⟨rb, 2, none⟩)) (fun wr hwr => by simp only [execOp, (F14.eval 90 (by omega)).trans (show _ = Value.pointer (some ⟨rb, 0, none⟩) from by simp [upd, e0, e13])]; simp [go_sem]) fun F15 => ?_
            refine lst rfl HC5 rfl (wanted_none rfl) (w1 := w5.setCell ⟨rb, 2, none⟩ (.slice ao5 (A.length + 1) cap5)) (by simp only [execOp, (F15.eval 91 (by omega)).trans (show _ = Value.pointer (some ⟨rb, 2, none⟩) from by simp [upd, e0, e13]), (F15.eval 89 (by omega)).trans (show _ = Value.slice ao5 (A.length + 1) cap5 from by simp [upd, e0, e13])]; simp [go_sem, hf5, hz5]) ?_
            refine ⟨fun h => by omega, ?_⟩
            refine hK _ _ ?_
            clear F0 F1 F2 F3 F4 F5 F6 F7 F8 F9 F10 F11 F12 F13 F14 F15 e0 e13 HCC HC1 HC5 hz5 hf5 hrun hc5
            simp only [Act.put, List.setIfInBounds_toArray, List.set_cons_succ, List.set_cons_zero]
            go_wp2_with fail
            go_ret
            refine ⟨by rw [HCD.out]; rfl, ?_⟩
            rw [HNX2.out, ← HE2.out]
            refine ⟨⟨_, hV5, fun g hg => (hat5 g hg).imp id (fun hh => Nat.le_trans HSW.out hh)⟩, ?_⟩
            exact (HCW.out.mono (fun _ _ hh => hh.elim)).trans (show Chg (fun k => k = rb ∨ (Value.slice ao A.length cap).ownBlock = some k) Y _ from ⟨hch5.os, hch5.tape, hch5.output, hch5.size, hch5.block⟩) (fun j hj hh => hh)
        · have HNX2 : Hid (NX = A ++ [⟨me, n, c, rc, l.v + 1, d, u, h⟩]) := show _ = _ from by rw [HN0.out, if_neg (by simp), if_neg (fun h => hl0 h.1), if_neg (fun h => q1 h.2.2.1)]
          replace q1 : (l.rc == rc) = false := by simpa using q1
          clear HC0 HN0
          have fz : Z.frozen? ⟨xb, 3, none⟩ = false := HXZ.out.frozen 3
          obtain ⟨e2, he2⟩ : ∃ e2 : Ent, e2 = ⟨me, n, c, rc, l.v + 1, d, u, h⟩ := ⟨_, rfl⟩
          obtain ⟨Y, hY⟩ : ∃ Y, Y = Z.setCell ⟨xb, 3, none⟩ (.int .i64 (l.v + 1)) := ⟨_, rfl⟩
          have hYc : Chg (fun k => k = xb) Z Y := by rw [hY]; exact setCell_chg _ _ _ _
          have hYB : Blk Y xb #[.string ⟨n.toArray⟩, .int .i64 c, .int .i64 rc, .int .i64 (l.v + 1), .int .i64 d, .int .i64 u, .int .i64 h] 105 := by rw [hY]; exact HXZ.out.set 3 _
          have HVX : Hid (VAt Y xb 0 e2) := show VAt Y xb 0 e2 from by rw [he2]; exact ⟨hYB.cell 0, hYB.cell 1, hYB.cell 2, hYB.cell 3, hYB.cell 4, hYB.cell 5, hYB.cell 6⟩
          have HVY : Hid (RVw L rb me N (.slice ao A.length cap) A Y) := show RVw L rb me N (.slice ao A.length cap) A Y from HVZ.out.keep (hYc.block _ HVZ.out.blk.lt HNX.out.1) (fun g hg => hYc.block _ (ownsRow_lt HVZ.out.row hg).2 (HNX.out.2 g hg))
          have y0 : Y.cell? ⟨rb, 0, none⟩ = some (.int .i64 e2.r) := by rw [he2]; exact HVY.out.c0
          have y2 : Y.cell? ⟨rb, 2, none⟩ = some (.slice ao A.length cap) := HVY.out.c2
          have HCW : Hid (Chg (fun _ => False) w Y) := show Chg (fun _ => False) w Y from ⟨(hYc.os).trans HBZ.out.os, (hYc.tape).trans HBZ.out.tape, (hYc.output).trans HBZ.out.output, Nat.le_trans HBZ.out.size hYc.size, fun k hk _ => (hYc.block k (Nat.lt_of_lt_of_le hk HBZ.out.size) (fun e => by have := HXB.out; omega)).trans (HBZ.out.block k hk)⟩
          have HCK : Hid (∀ wa wb : World, Below wa.heap.size wa wb → (fun wq => wq.cell? ⟨rb, 2, none⟩ = some (.slice ao A.length cap) ∧ wq.cell? ⟨rb, 0, none⟩ = some (.int .i64 e2.r) ∧ VAt wq xb 0 e2) wa → (fun wq => wq.cell? ⟨rb, 2, none⟩ = some (.slice ao A.length cap) ∧ wq.cell? ⟨rb, 0, none⟩ = some (.int .i64 e2.r) ∧ VAt wq xb 0 e2) wb) := fun wa wb hb hh => ⟨cell_below hb hh.1, cell_below hb hh.2.1, hh.2.2.keep (hb.block _ hh.2.2.lt)⟩
          have HE2 : Hid (e2 = ⟨me, n, c, rc, l.v + 1, d, u, h⟩) := he2
          have HSW : Hid (w.heap.size ≤ Y.heap.size) := HCW.out.size
          have HWL : Hid (∀ g, (Value.slice ao A.length cap).ownBlock = some g → g < w.heap.size) := fun g hg => (ownsRow_lt HV.out.row hg).2
          go_upto_region 11 with fail
          rw [← hY]
          clear hY hYB he2 hYc fz
          go_wp2_with fail
          rename_i K hK
          try rw [show ∀ a : Act, a.put none undef = a from fun _ => rfl]
          refine wp_region_mix (fun wq => wq.cell? ⟨rb, 2, none⟩ = some (.slice ao A.length cap) ∧ wq.cell? ⟨rb, 0, none⟩ = some (.int .i64 e2.r) ∧ VAt wq xb 0 e2) (fun i => i == 11 || i == 12 || i == 15) 15 (by kernel_rfl) rfl (by kernel_rfl) (by kernel_rfl) (by kernel_rfl) ?_
          refine withFrP (N := 92) rfl ?_
          intro f0 F0 hff
          have e0 : f0 0 = Value.pointer (some ⟨rb, 0, none⟩) := hff 0
          have e13 : f0 13 = Value.pointer (some ⟨xb, 0, none⟩) := hff 13
          clear hff
          have HCC : (fun wq => wq.cell? ⟨rb, 2, none⟩ = some (.slice ao A.length cap) ∧ wq.cell? ⟨rb, 0, none⟩ = some (.int .i64 e2.r) ∧ VAt wq xb 0 e2) (({ Y with drawn := Y.drawn + 1 } : World)) := ⟨y2, y0, HVX.out.keep rfl⟩
          have HC1 : (fun wq => wq.cell? ⟨rb, 2, none⟩ = some (.slice ao A.length cap) ∧ wq.cell? ⟨rb, 0, none⟩ = some (.int .i64 e2.r) ∧ VAt wq xb 0 e2) ((({ Y with drawn := Y.drawn + 1 } : World)).alloc (.cells #[.int .i64 e2.r, .string ⟨e2.n.toArray⟩, .int .i64 e2.c, .int .i64 e2.rc, .int .i64 e2.v, .int .i64 e2.d, .int .i64 e2.u, .int .i64 e2.h] 150)) := HCK.out _ _ ((Below.refl _ _).alloc (Nat.le_refl _) _) HCC
          refine lyp F0 rfl HCC rfl (by omega) (wanted_none rfl) (v := Value.pointer (some ⟨rb, 0, none⟩)) (fun wr hwr => by simp only [execOp, (F0.eval 0 (by omega)).trans (show _ = Value.pointer (some ⟨rb, 0, none⟩) from by simp [upd, e0, e13])]; first | rfl | simp [go_sem]) fun F1 => ?_
          refine lyp F1 rfl HCC rfl (by omega) (wanted_none rfl) (v := Value.pointer (some ⟨rb, 0, none⟩)) (fun wr hwr => by simp only [execOp, (F1.eval 0 (by omega)).trans (show _ = Value.pointer (some ⟨rb, 0, none⟩) from by simp [upd, e0, e13])]; first | rfl | simp [go_sem]) fun F2 => ?_
          refine lyp F2 rfl HCC rfl (by omega) (wanted_none rfl) (v := Value.pointer (some ⟨rb, 0, none⟩)) (fun wr hwr => by simp only [execOp, (F2.eval 78 (by omega)).trans (show _ = Value.pointer (some ⟨rb, 0, none⟩) from by simp [upd, e0, e13])]; simp [go_sem]) fun F3 => ?_
          refine lyp F3 rfl HCC rfl (by omega) (wanted_none rfl) (v := Value.pointer (some ⟨rb, 2, none⟩)) (fun wr hwr => by simp only [execOp, (F3.eval 79 (by omega)).trans (show _ = Value.pointer (some ⟨rb, 0, none⟩) from by simp [upd, e0, e13])]; simp [go_sem]) fun F4 => ?_
          refine lyp F4 rfl HCC rfl (by omega) (wanted_none rfl) (v := Value.slice ao A.length cap) (fun wr hwr => by simp only [execOp, (F4.eval 80 (by omega)).trans (show _ = Value.pointer (some ⟨rb, 2, none⟩) from by simp [upd, e0, e13])]; simp [go_sem, hwr.1]) fun F5 => ?_
          refine lyp F5 rfl HCC rfl (by omega) (wanted_none rfl) (v := Value.pointer (some ⟨rb, 0, none⟩)) (fun wr hwr => by simp only [execOp, (F5.eval 0 (by omega)).trans (show _ = Value.pointer (some ⟨rb, 0, none⟩) from by simp [upd, e0, e13])]; first | rfl | simp [go_sem]) fun F6 => ?_
          refine lyp F6 rfl HCC rfl (by omega) (wanted_none rfl) (v := Value.pointer (some ⟨rb, 0, none⟩)) (fun wr hwr => by simp only [execOp, (F6.eval 82 (by omega)).trans (show _ = Value.pointer (some ⟨rb, 0, none⟩) from by simp [upd, e0, e13])]; simp [go_sem]) fun F7 => ?_
          refine lyp F7 rfl HCC rfl (by omega) (wanted_none rfl) (v := Value.pointer (some ⟨rb, 0, none⟩)) (fun wr hwr => by simp only [execOp, (F7.eval 83 (by omega)).trans (show _ = Value.pointer (some ⟨rb, 0, none⟩) from by simp [upd, e0, e13])]; simp [go_sem]) fun F8 => ?_
          refine lyp F8 rfl HCC rfl (by omega) (wanted_none rfl) (v := Value.int .i64 e2.r) (fun wr hwr => by simp only [execOp, (F8.eval 84 (by omega)).trans (show _ = Value.pointer (some ⟨rb, 0, none⟩) from by simp [upd, e0, e13])]; simp [go_sem, hwr.2.1]) fun F9 => ?_
          refine lyp F9 rfl HCC rfl (by omega) (wanted_none rfl) (v := Value.agg #[.string ⟨e2.n.toArray⟩, .int .i64 e2.c, .int .i64 e2.rc, .int .i64 e2.v, .int .i64 e2.d, .int .i64 e2.u, .int .i64 e2.h]) (fun wr hwr => by simp only [execOp, (F9.eval 13 (by omega)).trans (show _ = Value.pointer (some ⟨xb, 0, none⟩) from by simp [upd, e0, e13])]; simp [go_sem, hwr.2.2.c0, hwr.2.2.c1, hwr.2.2.c2, hwr.2.2.c3, hwr.2.2.c4, hwr.2.2.c5, hwr.2.2.c6]) fun F10 => ?_
          refine lyp F10 rfl HCC rfl (by omega) (wanted_none rfl) (v := Value.agg #[.int .i64 e2.r, .string ⟨e2.n.toArray⟩, .int .i64 e2.c, .int .i64 e2.rc, .int .i64 e2.v, .int .i64 e2.d, .int .i64 e2.u, .int .i64 e2.h]) (fun wr hwr => by simp only [execOp, List.map_toArray, List.map_cons, List.map_nil, (F10.eval 85 (by omega)).trans (show _ = Value.int .i64 e2.r from by simp [upd, e0, e13]), (F10.eval 86 (by omega)).trans (show _ = Value.agg #[.string ⟨e2.n.toArray⟩, .int .i64 e2.c, .int .i64 e2.rc, .int .i64 e2.v, .int .i64 e2.d, .int .i64 e2.u, .int .i64 e2.h] from by simp [upd, e0, e13])]; simp [go_sem]; try rfl) fun F11 => ?_
          refine lep F11 rfl HCC rfl (by omega) (wanted_none rfl) (v := Value.slice (some ⟨Y.heap.size, 0, none⟩) 1 1) (w1 := (({ Y with drawn := Y.drawn + 1 } : World)).alloc (.cells #[.int .i64 e2.r, .string ⟨e2.n.toArray⟩, .int .i64 e2.c, .int .i64 e2.rc, .int .i64 e2.v, .int .i64 e2.d, .int .i64 e2.u, .int .i64 e2.h] 150)) (by simp only [execOp, List.map_toArray, List.map_cons, List.map_nil, (F11.eval 87 (by omega)).trans (show _ = Value.agg #[.int .i64 e2.r, .string ⟨e2.n.toArray⟩, .int .i64 e2.c, .int .i64 e2.rc, .int .i64 e2.v, .int .i64 e2.d, .int .i64 e2.u, .int .i64 e2.h] from by simp [upd, e0, e13])]; simp [go_sem]) fun F12 => ?_
          obtain ⟨ao5, cap5, w5, hrun, hc5, hz5, hf5, hV5, hch5, hat5⟩ := (show RVw L rb me N (.slice ao A.length cap) A (({ Y with drawn := Y.drawn + 1 } : World)) from HVY.out.keep rfl (fun _ _ => rfl)).push HAL.out e2
          have HC5 : (fun wq => wq.cell? ⟨rb, 2, none⟩ = some (.slice ao A.length cap) ∧ wq.cell? ⟨rb, 0, none⟩ = some (.int .i64 e2.r) ∧ VAt wq xb 0 e2) w5 := ⟨hz5, (by have hB := (show RVw L rb me N (.slice ao A.length cap) A ({ Y with drawn := Y.drawn + 1 } : World) from HVY.out.keep rfl (fun _ _ => rfl)).blk; exact (hc5.blk hB (fun hh => by obtain ⟨cu, hcu⟩ := ownsRow_type HVY.out.row hh; exact Blk.ne_t HVY.out.blk (show Blk Y rb cu 150 from hcu) (by decide) rfl)).cell 0 |>.trans (HVY.out.blk.cell 0).symm |>.trans y0), HVX.out.keep (hc5.block xb HVX.out.lt (fun hh => HNX.out.2 _ hh rfl))⟩
          refine lep F12 rfl HC1 rfl (by omega) (wanted_none rfl) (v := Value.slice ao5 (A.length + 1) cap5) (w1 := w5) (by simp only [execOp, resolve, invoke, builtin, List.map_toArray, List.map_cons, List.map_nil, (F12.eval 81 (by omega)).trans (show _ = Value.slice ao A.length cap from by simp [upd, e0, e13]), (F12.eval 88 (by omega)).trans (show _ = Value.slice (some ⟨Y.heap.size, 0, none⟩) 1 1 from by simp [upd, e0, e13])]; simp only [Sem.run_bind, Sem.run_pure, Result.andThen_ok, show _ = _ from hrun _]; try rfl) fun F13 => ?_
          refine lyp F13 rfl HC5 rfl (by omega) (wanted_none rfl) (v := Value.pointer (some ⟨rb, 0, none⟩)) (fun wr hwr => by simp only [execOp, (F13.eval 77 (by omega)).trans (show _ = Value.pointer (some ⟨rb, 0, none⟩) from by simp [upd, e0, e13])]; simp [go_sem]) fun F14 => ?_
          refine lyp F14 rfl HC5 rfl (by omega) (wanted_none rfl) (v := Value.pointer (some ⟨rb, 2, none⟩)) (fun wr hwr => by simp only [execOp, (F14.eval 90 (by omega)).trans (show _ = Value.pointer (some ⟨rb, 0, none⟩) from by simp [upd, e0, e13])]; simp [go_sem]) fun F15 => ?_
          refine lst rfl HC5 rfl (wanted_none rfl) (w1 := w5.setCell ⟨rb, 2, none⟩ (.slice ao5 (A.length + 1) cap5)) (by simp only [execOp, (F15.eval 91 (by omega)).trans (show _ = Value.pointer (some ⟨rb, 2, none⟩) from by simp [upd, e0, e13]), (F15.eval 89 (by omega)).trans (show _ = Value.slice ao5 (A.length + 1) cap5 from by simp [upd, e0, e13])]; simp [go_sem, hf5, hz5]) ?_
          refine ⟨fun h => by omega, ?_⟩
          refine hK _ _ ?_
          clear F0 F1 F2 F3 F4 F5 F6 F7 F8 F9 F10 F11 F12 F13 F14 F15 e0 e13 HCC HC1 HC5 hz5 hf5 hrun hc5
          simp only [Act.put, List.setIfInBounds_toArray, List.set_cons_succ, List.set_cons_zero]
          go_wp2_with fail
          go_ret
          refine ⟨by rw [HCD.out]; rfl, ?_⟩
          rw [HNX2.out, ← HE2.out]
          refine ⟨⟨_, hV5, fun g hg => (hat5 g hg).imp id (fun hh => Nat.le_trans HSW.out hh)⟩, ?_⟩
          exact (HCW.out.mono (fun _ _ hh => hh.elim)).trans (show Chg (fun k => k = rb ∨ (Value.slice ao A.length cap).ownBlock = some k) Y _ from ⟨hch5.os, hch5.tape, hch5.output, hch5.size, hch5.block⟩) (fun j hj hh => hh)
      · have HNX2 : Hid (NX = A ++ [⟨me, n, c, rc, l.v + 1, d, u, h⟩]) := show _ = _ from by rw [HN0.out, if_neg (by simp), if_neg (fun h => hl0 h.1), if_neg (fun h => q0 h.2.1)]
        replace q0 : (l.c == c) = false := by simpa using q0
        clear HC0 HN0
        have fz : Z.frozen? ⟨xb, 3, none⟩ = false := HXZ.out.frozen 3
        obtain ⟨e2, he2⟩ : ∃ e2 : Ent, e2 = ⟨me, n, c, rc, l.v + 1, d, u, h⟩ := ⟨_, rfl⟩
        obtain ⟨Y, hY⟩ : ∃ Y, Y = Z.setCell ⟨xb, 3, none⟩ (.int .i64 (l.v + 1)) := ⟨_, rfl⟩
        have hYc : Chg (fun k => k = xb) Z Y := by rw [hY]; exact setCell_chg _ _ _ _
        have hYB : Blk Y xb #[.string ⟨n.toArray⟩, .int .i64 c, .int .i64 rc, .int .i64 (l.v + 1), .int .i64 d, .int .i64 u, .int .i64 h] 105 := by rw [hY]; exact HXZ.out.set 3 _
        have HVX : Hid (VAt Y xb 0 e2) := show VAt Y xb 0 e2 from by rw [he2]; exact ⟨hYB.cell 0, hYB.cell 1, hYB.cell 2, hYB.cell 3, hYB.cell 4, hYB.cell 5, hYB.cell 6⟩
        have HVY : Hid (RVw L rb me N (.slice ao A.length cap) A Y) := show RVw L rb me N (.slice ao A.length cap) A Y from HVZ.out.keep (hYc.block _ HVZ.out.blk.lt HNX.out.1) (fun g hg => hYc.block _ (ownsRow_lt HVZ.out.row hg).2 (HNX.out.2 g hg))
        have y0 : Y.cell? ⟨rb, 0, none⟩ = some (.int .i64 e2.r) := by rw [he2]; exact HVY.out.c0
        have y2 : Y.cell? ⟨rb, 2, none⟩ = some (.slice ao A.length cap) := HVY.out.c2
        have HCW : Hid (Chg (fun _ => False) w Y) := show Chg (fun _ => False) w Y from ⟨(hYc.os).trans HBZ.out.os, (hYc.tape).trans HBZ.out.tape, (hYc.output).trans HBZ.out.output, Nat.le_trans HBZ.out.size hYc.size, fun k hk _ => (hYc.block k (Nat.lt_of_lt_of_le hk HBZ.out.size) (fun e => by have := HXB.out; omega)).trans (HBZ.out.block k hk)⟩
        have HCK : Hid (∀ wa wb : World, Below wa.heap.size wa wb → (fun wq => wq.cell? ⟨rb, 2, none⟩ = some (.slice ao A.length cap) ∧ wq.cell? ⟨rb, 0, none⟩ = some (.int .i64 e2.r) ∧ VAt wq xb 0 e2) wa → (fun wq => wq.cell? ⟨rb, 2, none⟩ = some (.slice ao A.length cap) ∧ wq.cell? ⟨rb, 0, none⟩ = some (.int .i64 e2.r) ∧ VAt wq xb 0 e2) wb) := fun wa wb hb hh => ⟨cell_below hb hh.1, cell_below hb hh.2.1, hh.2.2.keep (hb.block _ hh.2.2.lt)⟩
        have HE2 : Hid (e2 = ⟨me, n, c, rc, l.v + 1, d, u, h⟩) := he2
        have HSW : Hid (w.heap.size ≤ Y.heap.size) := HCW.out.size
        have HWL : Hid (∀ g, (Value.slice ao A.length cap).ownBlock = some g → g < w.heap.size) := fun g hg => (ownsRow_lt HV.out.row hg).2
        go_upto_region 11 with fail
        rw [← hY]
        clear hY hYB he2 hYc fz
        go_wp2_with fail
        rename_i K hK
        try rw [show ∀ a : Act, a.put none undef = a from fun _ => rfl]
        refine wp_region_mix (fun wq => wq.cell? ⟨rb, 2, none⟩ = some (.slice ao A.length cap) ∧ wq.cell? ⟨rb, 0, none⟩ = some (.int .i64 e2.r) ∧ VAt wq xb 0 e2) (fun i => i == 11 || i == 12 || i == 15) 15 (by kernel_rfl) rfl (by kernel_rfl) (by kernel_rfl) (by kernel_rfl) ?_
        refine withFrP (N := 92) rfl ?_
        intro f0 F0 hff
        have e0 : f0 0 = Value.pointer (some ⟨rb, 0, none⟩) := hff 0
        have e13 : f0 13 = Value.pointer (some ⟨xb, 0, none⟩) := hff 13
        clear hff
        have HCC : (fun wq => wq.cell? ⟨rb, 2, none⟩ = some (.slice ao A.length cap) ∧ wq.cell? ⟨rb, 0, none⟩ = some (.int .i64 e2.r) ∧ VAt wq xb 0 e2) (({ Y with drawn := Y.drawn + 1 } : World)) := ⟨y2, y0, HVX.out.keep rfl⟩
        have HC1 : (fun wq => wq.cell? ⟨rb, 2, none⟩ = some (.slice ao A.length cap) ∧ wq.cell? ⟨rb, 0, none⟩ = some (.int .i64 e2.r) ∧ VAt wq xb 0 e2) ((({ Y with drawn := Y.drawn + 1 } : World)).alloc (.cells #[.int .i64 e2.r, .string ⟨e2.n.toArray⟩, .int .i64 e2.c, .int .i64 e2.rc, .int .i64 e2.v, .int .i64 e2.d, .int .i64 e2.u, .int .i64 e2.h] 150)) := HCK.out _ _ ((Below.refl _ _).alloc (Nat.le_refl _) _) HCC
        refine lyp F0 rfl HCC rfl (by omega) (wanted_none rfl) (v := Value.pointer (some ⟨rb, 0, none⟩)) (fun wr hwr => by simp only [execOp, (F0.eval 0 (by omega)).trans (show _ = Value.pointer (some ⟨rb, 0, none⟩) from by simp [upd, e0, e13])]; first | rfl | simp [go_sem]) fun F1 => ?_
        refine lyp F1 rfl HCC rfl (by omega) (wanted_none rfl) (v := Value.pointer (some ⟨rb, 0, none⟩)) (fun wr hwr => by simp only [execOp, (F1.eval 0 (by omega)).trans (show _ = Value.pointer (some ⟨rb, 0, none⟩) from by simp [upd, e0, e13])]; first | rfl | simp [go_sem]) fun F2 => ?_
        refine lyp F2 rfl HCC rfl (by omega) (wanted_none rfl) (v := Value.pointer (some ⟨rb, 0, none⟩)) (fun wr hwr => by simp only [execOp, (F2.eval 78 (by omega)).trans (show _ = Value.pointer (some ⟨rb, 0, none⟩) from by simp [upd, e0, e13])]; simp [go_sem]) fun F3 => ?_
        refine lyp F3 rfl HCC rfl (by omega) (wanted_none rfl) (v := Value.pointer (some ⟨rb, 2, none⟩)) (fun wr hwr => by simp only [execOp, (F3.eval 79 (by omega)).trans (show _ = Value.pointer (some ⟨rb, 0, none⟩) from by simp [upd, e0, e13])]; simp [go_sem]) fun F4 => ?_
        refine lyp F4 rfl HCC rfl (by omega) (wanted_none rfl) (v := Value.slice ao A.length cap) (fun wr hwr => by simp only [execOp, (F4.eval 80 (by omega)).trans (show _ = Value.pointer (some ⟨rb, 2, none⟩) from by simp [upd, e0, e13])]; simp [go_sem, hwr.1]) fun F5 => ?_
        refine lyp F5 rfl HCC rfl (by omega) (wanted_none rfl) (v := Value.pointer (some ⟨rb, 0, none⟩)) (fun wr hwr => by simp only [execOp, (F5.eval 0 (by omega)).trans (show _ = Value.pointer (some ⟨rb, 0, none⟩) from by simp [upd, e0, e13])]; first | rfl | simp [go_sem]) fun F6 => ?_
        refine lyp F6 rfl HCC rfl (by omega) (wanted_none rfl) (v := Value.pointer (some ⟨rb, 0, none⟩)) (fun wr hwr => by simp only [execOp, (F6.eval 82 (by omega)).trans (show _ = Value.pointer (some ⟨rb, 0, none⟩) from by simp [upd, e0, e13])]; simp [go_sem]) fun F7 => ?_
        refine lyp F7 rfl HCC rfl (by omega) (wanted_none rfl) (v := Value.pointer (some ⟨rb, 0, none⟩)) (fun wr hwr => by simp only [execOp, (F7.eval 83 (by omega)).trans (show _ = Value.pointer (some ⟨rb, 0, none⟩) from by simp [upd, e0, e13])]; simp [go_sem]) fun F8 => ?_
        refine lyp F8 rfl HCC rfl (by omega) (wanted_none rfl) (v := Value.int .i64 e2.r) (fun wr hwr => by simp only [execOp, (F8.eval 84 (by omega)).trans (show _ = Value.pointer (some ⟨rb, 0, none⟩) from by simp [upd, e0, e13])]; simp [go_sem, hwr.2.1]) fun F9 => ?_
        refine lyp F9 rfl HCC rfl (by omega) (wanted_none rfl) (v := Value.agg #[.string ⟨e2.n.toArray⟩, .int .i64 e2.c, .int .i64 e2.rc, .int .i64 e2.v, .int .i64 e2.d, .int .i64 e2.u, .int .i64 e2.h]) (fun wr hwr => by simp only [execOp, (F9.eval 13 (by omega)).trans (show _ = Value.pointer (some ⟨xb, 0, none⟩) from by simp [upd, e0, e13])]; simp [go_sem, hwr.2.2.c0, hwr.2.2.c1, hwr.2.2.c2, hwr.2.2.c3, hwr.2.2.c4, hwr.2.2.c5, hwr.2.2.c6]) fun F10 => ?_
        refine lyp F10 rfl HCC rfl (by omega) (wanted_none rfl) (v := Value.agg #[.int .i64 e2.r, .string ⟨e2.n.toArray⟩, .int .i64 e2.c, .int .i64 e2.rc, .int .i64 e2.v, .int .i64 e2.d, .int .i64 e2.u, .int .i64 e2.h]) (fun wr hwr => by simp only [execOp, List.map_toArray, List.map_cons, List.map_nil, (F10.eval 85 (by omega)).trans (show _ = Value.int .i64 e2.r from by simp [upd, e0, e13]), (F10.eval 86 (by omega)).trans (show _ = Value.agg #[.string ⟨e2.n.toArray⟩, .int .i64 e2.c, .int .i64 e2.rc, .int .i64 e2.v, .int .i64 e2.d, .int .i64 e2.u, .int .i64 e2.h] from by simp [upd, e0, e13])]; simp [go_sem]; try rfl) fun F11 => ?_
        refine lep F11 rfl HCC rfl (by omega) (wanted_none rfl) (v := Value.slice (some ⟨Y.heap.size, 0, none⟩) 1 1) (w1 := (({ Y with drawn := Y.drawn + 1 } : World)).alloc (.cells #[.int .i64 e2.r, .string ⟨e2.n.toArray⟩, .int .i64 e2.c, .int .i64 e2.rc, .int .i64 e2.v, .int .i64 e2.d, .int .i64 e2.u, .int .i64 e2.h] 150)) (by simp only [execOp, List.map_toArray, List.map_cons, List.map_nil, (F11.eval 87 (by omega)).trans (show _ = Value.agg #[.int .i64 e2.r, .string ⟨e2.n.toArray⟩, .int .i64 e2.c, .int .i64 e2.rc, .int .i64 e2.v, .int .i64 e2.d, .int .i64 e2.u, .int .i64 e2.h] from by simp [upd, e0, e13])]; simp [go_sem]) fun F12 => ?_
        obtain ⟨ao5, cap5, w5, hrun, hc5, hz5, hf5, hV5, hch5, hat5⟩ := (show RVw L rb me N (.slice ao A.length cap) A (({ Y with drawn := Y.drawn + 1 } : World)) from HVY.out.keep rfl (fun _ _ => rfl)).push HAL.out e2
        have HC5 : (fun wq => wq.cell? ⟨rb, 2, none⟩ = some (.slice ao A.length cap) ∧ wq.cell? ⟨rb, 0, none⟩ = some (.int .i64 e2.r) ∧ VAt wq xb 0 e2) w5 := ⟨hz5, (by have hB := (show RVw L rb me N (.slice ao A.length cap) A ({ Y with drawn := Y.drawn + 1 } : World) from HVY.out.keep rfl (fun _ _ => rfl)).blk; exact (hc5.blk hB (fun hh => by obtain ⟨cu, hcu⟩ := ownsRow_type HVY.out.row hh; exact Blk.ne_t HVY.out.blk (show Blk Y rb cu 150 from hcu) (by decide) rfl)).cell 0 |>.trans (HVY.out.blk.cell 0).symm |>.trans y0), HVX.out.keep (hc5.block xb HVX.out.lt (fun hh => HNX.out.2 _ hh rfl))⟩
        refine lep F12 rfl HC1 rfl (by omega) (wanted_none rfl) (v := Value.slice ao5 (A.length + 1) cap5) (w1 := w5) (by simp only [execOp, resolve, invoke, builtin, List.map_toArray, List.map_cons, List.map_nil, (F12.eval 81 (by omega)).trans (show _ = Value.slice ao A.length cap from by simp [upd, e0, e13]), (F12.eval 88 (by omega)).trans (show _ = Value.slice (some ⟨Y.heap.size, 0, none⟩) 1 1 from by simp [upd, e0, e13])]; simp only [Sem.run_bind, Sem.run_pure, Result.andThen_ok, show _ = _ from hrun _]; try rfl) fun F13 => ?_
        refine lyp F13 rfl HC5 rfl (by omega) (wanted_none rfl) (v := Value.pointer (some ⟨rb, 0, none⟩)) (fun wr hwr => by simp only [execOp, (F13.eval 77 (by omega)).trans (show _ = Value.pointer (some ⟨rb, 0, none⟩) from by simp [upd, e0, e13])]; simp [go_sem]) fun F14 => ?_
        refine lyp F14 rfl HC5 rfl (by omega) (wanted_none rfl) (v := Value.pointer (some ⟨rb, 2, none⟩)) (fun wr hwr => by simp only [execOp, (F14.eval 90 (by omega)).trans (show _ = Value.pointer (some ⟨rb, 0, none⟩) from by simp [upd, e0, e13])]; simp [go_sem]) fun F15 => ?_
        refine lst rfl HC5 rfl (wanted_none rfl) (w1 := w5.setCell ⟨rb, 2, none⟩ (.slice ao5 (A.length + 1) cap5)) (by simp only [execOp, (F15.eval 91 (by omega)).trans (show _ = Value.pointer (some ⟨rb, 2, none⟩) from by simp [upd, e0, e13]), (F15.eval 89 (by omega)).trans (show _ = Value.slice ao5 (A.length + 1) cap5 from by simp [upd, e0, e13])]; simp [go_sem, hf5, hz5]) ?_
        refine ⟨fun h => by omega, ?_⟩
        refine hK _ _ ?_
        clear F0 F1 F2 F3 F4 F5 F6 F7 F8 F9 F10 F11 F12 F13 F14 F15 e0 e13 HCC HC1 HC5 hz5 hf5 hrun hc5
        simp only [Act.put, List.setIfInBounds_toArray, List.set_cons_succ, List.set_cons_zero]
        go_wp2_with fail
        go_ret
        refine ⟨by rw [HCD.out]; rfl, ?_⟩
        rw [HNX2.out, ← HE2.out]
        refine ⟨⟨_, hV5, fun g hg => (hat5 g hg).imp id (fun hh => Nat.le_trans HSW.out hh)⟩, ?_⟩
        exact (HCW.out.mono (fun _ _ hh => hh.elim)).trans (show Chg (fun k => k = rb ∨ (Value.slice ao A.length cap).ownBlock = some k) Y _ from ⟨hch5.os, hch5.tape, hch5.output, hch5.size, hch5.block⟩) (fun j hj hh => hh)
end Go.Proofs.YtnphkmdanicemaaGreatDoor
