import Derived.Test.YtcjgicfmfjomgaaSg
namespace Go.Proofs.Ytcjgicfmfjomgaa
open Go.RowKit Go.PlainAid Go.MapKept
set_option linter.unusedVariables false
set_option linter.unusedSimpArgs false
/-- A segment. -/
structure Sgm where
  f : Int
  t : Int
  q : Int
  a : Int
  d : Dv
def Sgm.row (g : Sgm) : List Value := [.int .i64 g.f, .int .i64 g.t, .int .i64 g.q, .int .i64 g.a, g.d.v]
def Sgm.pr (g : Sgm) : Int × Int × Int × Int × List UInt8 := (g.f, g.t, g.q, g.a, g.d.s)
def flatG (l : List Sgm) : List Value := l.flatMap Sgm.row
theorem flatG_len (l : List Sgm) : (flatG l).length = l.length * 5 := flat_len Sgm.row 5 (fun _ => rfl) l
theorem flatG_app (l m : List Sgm) : flatG (l ++ m) = flatG l ++ flatG m := by simp [flatG]
theorem info45 : (Try.prog.info? 45).map (fun i => (i.zero, i.size, i.bytes)) = some (some (.agg #[.int .i64 0, .int .i64 0, .int .i64 0, .int .i64 0, .slice none 0 0]), 5, 56) := by kernel_rfl
/-- A list of segments in memory, with its data. -/
structure SL (L : Nat) (v : Value) (l : List Sgm) (w : World) : Prop where
  r : w.ownsRow L 45 5 v l.length (flatG l)
  d : ∀ g ∈ l, w.ownsRow L 5 1 g.d.v g.d.s.length (g.d.s.map B)
  p : l.Pairwise fun g h => ∀ k, g.d.v.ownBlock = some k → h.d.v.ownBlock ≠ some k
theorem SL.nil (L : Nat) (w : World) : SL L (.slice none 0 0) [] w := ⟨World.ownsRow_nil _ _ _ _, (fun g hg => by cases hg), List.Pairwise.nil⟩
def slown (v : Value) (l : List Sgm) (k : Nat) : Prop := v.ownBlock = some k ∨ ∃ g ∈ l, g.d.v.ownBlock = some k
theorem SL.lt {L : Nat} {v : Value} {l : List Sgm} {w : World} (h : SL L v l w) {k : Nat} (hk : slown v l k) : L ≤ k ∧ k < w.heap.size := by
  rcases hk with e | ⟨g, hg, e⟩
  · exact ownsRow_lt h.r e
  · exact ownsRow_lt (h.d g hg) e
theorem SL.keep {L : Nat} {v : Value} {l : List Sgm} {w w' : World} (h : SL L v l w) {S : Nat → Prop} (hc : Chg S w w') (hS : ∀ k, slown v l k → ¬ S k) : SL L v l w' :=
  ⟨ownsRow_same h.r (fun g e => hc.block g (ownsRow_lt h.r e).2 (hS _ (.inl e))), fun g hg => ownsRow_same (h.d g hg) (fun k e => hc.block k (ownsRow_lt (h.d g hg) e).2 (hS _ (.inr ⟨g, hg, e⟩))), h.p⟩
theorem SL.more {L : Nat} {v : Value} {l : List Sgm} {w w' : World} (h : SL L v l w) (hb : Below w.heap.size w w') : SL L v l w' := h.keep (Chg.ofBelow (fun _ => False) hb) (fun _ _ e => e)
theorem oneG (g : Sgm) (hv : g.d.v.oneCell' = true) : ∀ u ∈ g.row, u.oneCell' = true := by
  intro u hu
  simp only [Sgm.row, List.mem_cons, List.not_mem_nil, or_false] at hu
  rcases hu with rfl | rfl | rfl | rfl | rfl <;> first | rfl | exact hv
/-- One more segment behind the others. -/
theorem SL.app {L : Nat} {v : Value} {l : List Sgm} {w : World} (h : SL L v l w) (hL : L ≤ w.heap.size) (hl : l.length ≤ 100000) (g : Sgm) (hg : w.ownsRow L 5 1 g.d.v g.d.s.length (g.d.s.map B)) (hap : ∀ e ∈ l, ∀ k, e.d.v.ownBlock = some k → g.d.v.ownBlock ≠ some k) :
    ∃ v' w', (∀ ty, (Builtin.append_ #[33, 33] ty #[v, .slice (some ⟨w.heap.size, 0, none⟩) 1 1]).run Try.prog (w.alloc (.cells #[.int .i64 g.f, .int .i64 g.t, .int .i64 g.q, .int .i64 g.a, g.d.v] 45)) = .ok v' w') ∧ SL L v' (l ++ [g]) w' ∧ Grew w w' v v' := by
  obtain ⟨go, gc, hgv, _⟩ := own_slice hg
  have hone : g.d.v.oneCell' = true := by rw [hgv]; rfl
  obtain ⟨v5, w5, hr5, ho5, hg5, _⟩ := app_any (w := w.alloc (.cells #[.int .i64 g.f, .int .i64 g.t, .int .i64 g.q, .int .i64 g.a, g.d.v] 45)) 33 45 (.agg #[.int .i64 0, .int .i64 0, .int .i64 0, .int .i64 0, .slice none 0 0]) 5 56 Try.underlying33 info45 rfl (by decide) (by decide) (h.r.alloc _) ⟨w.heap.size, 0, none⟩ 1 1 g.row rfl (fun j uu hu => by
    have hB : Blk (w.alloc (.cells #[.int .i64 g.f, .int .i64 g.t, .int .i64 g.q, .int .i64 g.a, g.d.v] 45)) w.heap.size #[.int .i64 g.f, .int .i64 g.t, .int .i64 g.q, .int .i64 g.a, g.d.v] 45 := heap_alloc_new w _
    rw [addr_add, Nat.zero_add, hB.cell j]
    simpa [Sgm.row] using hu) (oneG g hone) (by omega) (by rw [World.size_alloc]; omega) 33
  have hgr := hg5.ofAlloc
  have hty : ∀ {u : Value} {n : Nat} {xs : List Value}, w.ownsRow L 5 1 u n xs → w5.ownsRow L 5 1 u n xs := fun hu => ownsRow_same hu (fun k e => hgr.chg.block k (ownsRow_lt hu e).2 (fun e2 => by
    obtain ⟨c1, q1⟩ := ownsRow_type hu e
    obtain ⟨c2, q2⟩ := ownsRow_type h.r e2
    exact Blk.ne_t q1 q2 (by decide) rfl))
  refine ⟨v5, w5, fun ty => hr5, ⟨?_, fun e he => ?_, ?_⟩, hgr⟩
  · rw [List.length_append, flatG_app]
    have : flatG [g] = g.row := by simp [flatG]
    rw [this]
    exact ho5
  · rcases List.mem_append.1 he with q | q
    · exact hty (h.d e q)
    · rw [List.mem_singleton.1 q]; exact hty hg
  · refine List.pairwise_append.2 ⟨h.p, List.pairwise_singleton _ _, fun e he f hf k e1 => ?_⟩
    rw [List.mem_singleton.1 hf]
    exact hap e he k e1
/-- What is told of data under a row of numbers. -/
def tell (me peer ack : Int) : Int → List (List UInt8) → List (Int × Int × Int × Int × List UInt8)
  | _, [] => []
  | q, s :: ss => (me, peer, q, ack, s) :: tell me peer ack (q + 1) ss
theorem tell_app (me peer ack : Int) : ∀ (q : Int) (ss : List (List UInt8)) (s : List UInt8), tell me peer ack q (ss ++ [s]) = tell me peer ack q ss ++ [(me, peer, q + (ss.length : Int), ack, s)]
  | q, [], s => by simp [tell]
  | q, a :: ss, s => by
    simp only [List.cons_append, tell, tell_app me peer ack (q + 1) ss s, List.length_cons]
    congr 4
    simp
    omega
set_option maxRecDepth 100000 in
set_option maxHeartbeats 3200000 in
theorem under_any {L lb cb mb : Nat} {uv : Value} {x : LV} (w : World) (h : LM L lb cb mb uv x w) (hn : 1 ≤ x.next ∧ x.next ≤ 1099511627777) (hb : 0 ≤ x.acked ∧ x.acked ≤ 1099511627776) (hu : x.under.length ≤ 1000) (hds : ∀ d ∈ x.under, d.s.length ≤ 1000000) :
    Calls Try.prog 14 #[.pointer (some ⟨lb, 0, none⟩)] w fun e w' => ∃ v l, e = .returned v ∧ l.map Sgm.pr = tell x.me x.peer (x.next - 1) (x.acked + 1) (x.under.map Dv.s) ∧ SL w.heap.size v l w' ∧ Below w.heap.size w w' := by
  obtain ⟨uo, uc, huv, _⟩ := own_slice h.u
  obtain ⟨n, hnn⟩ : ∃ n, n = x.under.length := ⟨_, rfl⟩
  rw [← hnn] at huv hu
  subst huv
  have c6 : w.cell? ⟨lb, 6, none⟩ = some (.slice uo n uc) := h.b.cell 6
  have HM : Hid _ := h
  have HNN : Hid (n = x.under.length) := hnn
  have HDS : Hid (∀ d ∈ x.under, d.s.length ≤ 1000000) := hds
  obtain ⟨hb1, hb2⟩ := hb
  clear h hnn hds
  go_enter Try.func14, Try.ntmps14
  go_wp2_with fail
  go_loopw [11, 3, 4, 5] (fun s11 s3 _ _ wr => ∃ vd, vd = s3 ∧ ∃ i : Nat, i ≤ n ∧ s11 = .int .i64 (i : Int) ∧ ∃ l, l.map Sgm.pr = tell x.me x.peer (x.next - 1) (x.acked + 1) ((x.under.take i).map Dv.s) ∧ SL w.heap.size vd l wr ∧ Below w.heap.size w wr) (fun s11 _ _ _ _ => n - (intOf s11).toNat)
  case atStart => exact ⟨_, rfl, 0, Nat.zero_le _, rfl, [], rfl, SL.nil _ _, Below.refl _ _⟩
  case round =>
    obtain ⟨vd, rfl, i, hi, rfl, l, hl, hS, hbe⟩ := hrel
    have hM := HM.out.more hbe
    have hll : l.length = i := by
      have := congrArg List.length hl
      rw [List.length_map] at this
      have e : ∀ (q : Int) (ss : List (List UInt8)), (tell x.me x.peer (x.next - 1) q ss).length = ss.length := fun q ss => by
        induction ss generalizing q with
        | nil => rfl
        | cons a t ih => simp [tell, ih]
      rw [e, List.length_map, List.length_take] at this
      have := HNN.out
      omega
    by_cases hlt : i < n
    · obtain ⟨d, hd⟩ : ∃ d, x.under[i]? = some d := ⟨x.under[i]'(by rw [← HNN.out]; exact hlt), List.getElem?_eq_getElem _⟩
      have hdm := List.mem_of_getElem? hd
      have hda : d ∈ x.all := by unfold LV.all; simp [hdm]
      have hrow := hM.dt d hda
      have hu := hM.u
      rw [← HNN.out] at hu
      have hptr : ∃ g, uo = some ⟨g, 0, none⟩ := by
        rcases hu.2 with ⟨h1, h2⟩ | ⟨g2, c, cur, h1, _⟩
        · omega
        · simp only [Value.slice.injEq] at h1
          exact ⟨g2, h1.1⟩
      obtain ⟨gu, rfl⟩ := hptr
      have cu : wr.cell? ⟨gu, i, none⟩ = some d.v := by
        have := hu.cells (g := gu) rfl i d.v (by rw [List.getElem?_map, hd]; rfl)
        rwa [addr_add, Nat.zero_add] at this
      have c5 : wr.cell? ⟨lb, 5, none⟩ = some (.int .i64 x.acked) := hM.b.cell 5
      obtain ⟨dao, dc, hdv, _⟩ := own_slice hrow
      have HSG : Hid _ := segment_any (x.acked + 1 + (i : Int)) wr hM hn (own_by hrow) (HDS.out d hdm)
      have HDX : Hid (x.under[i]? = some d) := hd
      have HL : Hid (l.map Sgm.pr = tell x.me x.peer (x.next - 1) (x.acked + 1) ((x.under.take i).map Dv.s)) := hl
      have HS : Hid (SL w.heap.size vd l wr) := hS
      have HBE : Hid (Below w.heap.size w wr) := hbe
      have HLL : Hid (l.length = i) := hll
      have HDV : Hid (d.v = .slice dao d.s.length dc) := hdv
      rw [hdv] at cu HSG
      obtain ⟨vo, vc, hvd, _⟩ := own_slice hS.r
      subst hvd
      clear hd hdm hda hrow hu hM hl hS hbe hll hdv
      go_wp2_with fail
      refine Calls.mono HSG.out ?_
      rintro e w2 ⟨v2, rfl, hr2, hb2⟩
      have HB2 : Hid (Below w.heap.size w w2) := show Below w.heap.size w w2 from HBE.out.trans (hb2.mono HBE.out.size)
      have hS2 := HS.out.more hb2
      have hg2 : w2.ownsRow w.heap.size 5 1 v2 d.s.length (d.s.map B) := ownsRow_mono hr2 HBE.out.size
      obtain ⟨v5, w5, hr5, hS5, hg5⟩ := hS2.app HB2.out.size (by rw [HLL.out]; omega) ⟨x.me, x.peer, x.acked + 1 + (i : Int), x.next - 1, ⟨v2, d.s⟩⟩ hg2 (fun e he k e1 e2 => by
        have h1 := (ownsRow_lt (HS.out.d e he) e1).2
        have h2 := (ownsRow_lt hr2 e2).1
        omega)
      have HHR : Hid _ := hr5
      have HS5 : Hid _ := hS5
      have HB5 : Hid (Below w.heap.size w w5) := show Below w.heap.size w w5 from HB2.out.trans (hg5.below (fun q hq => (ownsRow_lt hS2.r hq).1) HB2.out.size)
      have HL5 : Hid ((l ++ [(⟨x.me, x.peer, x.acked + 1 + (i : Int), x.next - 1, ⟨v2, d.s⟩⟩ : Sgm)]).map Sgm.pr = tell x.me x.peer (x.next - 1) (x.acked + 1) ((x.under.take (i + 1)).map Dv.s)) := show _ = _ from by
        rw [List.map_append, HL.out, List.take_add_one, HDX.out]
        simp only [Option.toList_some, List.map_append, List.map_cons, List.map_nil, tell_app, List.length_map, List.length_take]
        have hmin : min i x.under.length = i := by have := HNN.out; omega
        rw [hmin]
        rfl
      obtain ⟨o2, c2, hv2, _⟩ := own_slice hr2
      subst hv2
      clear hS2 hg2 hr2 hb2 hr5 hS5 hg5 HSG HS HL cu c5
      unfold segA
      go_wp2_with (at_builtin; refine wpList_runs rfl _ _ 33 rfl rfl rfl HHR.out ?_)
      go_roundw
      case rel => exact ⟨_, rfl, i + 1, by omega, by go_num, _, HL5.out, HS5.out, HB5.out⟩
      case measure => simp [intOf]; omega
    · obtain rfl : i = n := by omega
      have htk : x.under.take i = x.under := List.take_of_length_le (by rw [← HNN.out]; exact Nat.le_refl _)
      rw [htk] at hl
      have HX : Hid (l.map Sgm.pr = tell x.me x.peer (x.next - 1) (x.acked + 1) (x.under.map Dv.s) ∧ SL w.heap.size vd l wr ∧ Below w.heap.size w wr) := ⟨hl, hS, hbe⟩
      clear hl hS hbe hM htk hll
      go_wp2_with fail
      go_ret
      exact ⟨_, l, rfl, HX.out⟩
end Go.Proofs.Ytcjgicfmfjomgaa
