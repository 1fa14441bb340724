import Derived.Test.YtfgnlfemckdfnaaJG
import Derived.Test.YtfgnlfemckdfnaaRefA
import Derived.Test.YtfgnlfemckdfnaaRefS
import Derived.Test.YtfgnlfemckdfnaaJF
import Derived.Test.YtfgnlfemckdfnaaJQ
namespace Go.Proofs.Ytfgnlfemckdfnaa
open Go.RowKit Go.PlainAid
set_option linter.unusedSimpArgs false
set_option linter.unusedVariables false
def ralikeB (x y : Msg) : Bool := !ne1 x y && (eq3 x y && ((x.views.length : Int) == (y.views.length : Int)))
theorem ralikeB_is (x y : Msg) : ralikeB x y = alikeB x y := by
  rw [Bool.eq_iff_iff]
  simp only [ralikeB, alikeB, ne1, eq3, Bool.and_eq_true, Bool.not_eq_true', Bool.or_eq_false_iff, bne_eq_false_iff_eq, beq_iff_eq, Bool.not_eq_false', Int.ofNat_inj, Int.natCast_inj]
  constructor <;> (intro h; simp_all)
set_option maxRecDepth 100000 in
set_option maxHeartbeats 1600000 in
theorem ralike_any (x y : Msg) (ao bo : Option Addr) (ca cb : Nat) (w : World) :
    Calls Try.prog 47 #[.agg (msgCells x (.slice ao x.views.length ca)), .agg (msgCells y (.slice bo y.views.length cb))] w (fun e w' => e = .returned (.bool (alikeB x y)) ∧ Below w.heap.size w w') := by
  rw [← ralikeB_is]
  refine calls_of_wp Try.func47 rfl ?_
  generalize hDx : msgCells x (.slice ao x.views.length ca) = Dx
  generalize hDy : msgCells y (.slice bo y.views.length cb) = Dy
  have e : Try.f47.ntmps - (#[Value.agg Dx, .agg Dy] : Array Value).size = 92 := by rw [Try.ntmps47]; rfl
  rw [e]
  have hF := frame_init (.agg Dx) (.agg Dy) 92
  generalize ({ tmps := #[Value.agg Dx, .agg Dy] ++ Array.replicate 92 undef, defers := [] } : Act) = a at *
  have hbl : Below w.heap.size w ((w.alloc (.cells Dx 35)).alloc (.cells Dy 35)) := by go_grown
  have hX : Blk ((w.alloc (.cells Dx 35)).alloc (.cells Dy 35)) w.heap.size Dx 35 := (Below.heap_alloc _ _ _ (by simp)).trans (heap_alloc_new w _)
  have hY : Blk ((w.alloc (.cells Dx 35)).alloc (.cells Dy 35)) (w.heap.size + 1) Dy 35 := by
    have := heap_alloc_new (w.alloc (.cells Dx 35)) (.cells Dy 35)
    rw [World.size_alloc] at this
    exact this
  refine wp_seq (wp_region_list ?_)
  refine sw hF rfl (by omega) wn (v := .pointer (some ⟨w.heap.size, 0, none⟩)) (w' := w.alloc (.cells Dx 35)) (by simp only [execOp, hF.eval 0 (by omega), if_true, Sem.run_bind, run_box']; rfl) fun a1 hF1 => ?_
  have h11 : a1.eval (.tmp 1) = .agg Dy := (hF1.eval 1 (by omega)).trans (by simp [upd])
  refine sw hF1 rfl (by omega) wn (v := .pointer (some ⟨w.heap.size + 1, 0, none⟩)) (w' := (w.alloc (.cells Dx 35)).alloc (.cells Dy 35)) (by simp only [execOp, h11, Sem.run_bind, run_box', World.size_alloc]; rfl) fun a2 hF2 => ?_
  refine sz hF2 (v := .bool false) (by simp [execOp, Act.eval]) fun a3 hF3 => ?_
  refine wpList_nil ?_
  generalize (w.alloc (.cells Dx 35)).alloc (.cells Dy 35) = W at *
  generalize hL : w.heap.size = L at *
  have h2 : (upd (upd (upd (fun j => if j = 0 then Value.agg Dx else if j = 1 then .agg Dy else undef) 2 (.pointer (some ⟨L, 0, none⟩))) 3 (.pointer (some ⟨L + 1, 0, none⟩))) 4 (.bool false)) 2 = .pointer (some ⟨L, 0, none⟩) := by simp [upd]
  have h3 : (upd (upd (upd (fun j => if j = 0 then Value.agg Dx else if j = 1 then .agg Dy else undef) 2 (.pointer (some ⟨L, 0, none⟩))) 3 (.pointer (some ⟨L + 1, 0, none⟩))) 4 (.bool false)) 3 = .pointer (some ⟨L + 1, 0, none⟩) := by simp [upd]
  generalize upd (upd (upd (fun j => if j = 0 then Value.agg Dx else if j = 1 then .agg Dy else undef) 2 (.pointer (some ⟨L, 0, none⟩))) 3 (.pointer (some ⟨L + 1, 0, none⟩))) 4 (.bool false) = f at *
  clear hF hF1 hF2 h11
  have hF := hF3
  clear hF3
  subst hDx hDy
  have x0 : W.cell? ⟨L, 0, none⟩ = some (.int .i64 x.kind) := (hX.cell 0).trans rfl
  have y0 : W.cell? ⟨L + 1, 0, none⟩ = some (.int .i64 y.kind) := (hY.cell 0).trans rfl
  have x1 : W.cell? ⟨L, 1, none⟩ = some (.string ⟨x.name.toArray⟩) := (hX.cell 1).trans rfl
  have y1 : W.cell? ⟨L + 1, 1, none⟩ = some (.string ⟨y.name.toArray⟩) := (hY.cell 1).trans rfl
  have x2 : W.cell? ⟨L, 2, none⟩ = some (.int .i64 x.cap) := (hX.cell 2).trans rfl
  have y2 : W.cell? ⟨L + 1, 2, none⟩ = some (.int .i64 y.cap) := (hY.cell 2).trans rfl
  have x3 : W.cell? ⟨L, 3, none⟩ = some (.int .i64 x.recaps) := (hX.cell 3).trans rfl
  have y3 : W.cell? ⟨L + 1, 3, none⟩ = some (.int .i64 y.recaps) := (hY.cell 3).trans rfl
  have x4 : W.cell? ⟨L, 4, none⟩ = some (.int .i64 x.round) := (hX.cell 4).trans rfl
  have y4 : W.cell? ⟨L + 1, 4, none⟩ = some (.int .i64 y.round) := (hY.cell 4).trans rfl
  have x5 : W.cell? ⟨L, 5, none⟩ = some (.int .i64 x.rank) := (hX.cell 5).trans rfl
  have y5 : W.cell? ⟨L + 1, 5, none⟩ = some (.int .i64 y.rank) := (hY.cell 5).trans rfl
  have x6 : W.cell? ⟨L, 6, none⟩ = some (.int .i64 x.oround) := (hX.cell 6).trans rfl
  have y6 : W.cell? ⟨L + 1, 6, none⟩ = some (.int .i64 y.oround) := (hY.cell 6).trans rfl
  have x7 : W.cell? ⟨L, 7, none⟩ = some (.int .i64 x.orank) := (hX.cell 7).trans rfl
  have y7 : W.cell? ⟨L + 1, 7, none⟩ = some (.int .i64 y.orank) := (hY.cell 7).trans rfl
  have x8 : W.cell? ⟨L, 8, none⟩ = some (.int .i64 x.down) := (hX.cell 8).trans rfl
  have y8 : W.cell? ⟨L + 1, 8, none⟩ = some (.int .i64 y.down) := (hY.cell 8).trans rfl
  have x9 : W.cell? ⟨L, 9, none⟩ = some (.int .i64 x.up) := (hX.cell 9).trans rfl
  have y9 : W.cell? ⟨L + 1, 9, none⟩ = some (.int .i64 y.up) := (hY.cell 9).trans rfl
  have x10 : W.cell? ⟨L, 10, none⟩ = some (.int .i64 x.held) := (hX.cell 10).trans rfl
  have y10 : W.cell? ⟨L + 1, 10, none⟩ = some (.int .i64 y.held) := (hY.cell 10).trans rfl
  have x11 : W.cell? ⟨L, 11, none⟩ = some (.int .i64 x.session) := (hX.cell 11).trans rfl
  have y11 : W.cell? ⟨L + 1, 11, none⟩ = some (.int .i64 y.session) := (hY.cell 11).trans rfl
  have x12 : W.cell? ⟨L, 12, none⟩ = some (.int .i64 x.id) := (hX.cell 12).trans rfl
  have y12 : W.cell? ⟨L + 1, 12, none⟩ = some (.int .i64 y.id) := (hY.cell 12).trans rfl
  have x13 : W.cell? ⟨L, 13, none⟩ = some (.int .i64 x.okind) := (hX.cell 13).trans rfl
  have y13 : W.cell? ⟨L + 1, 13, none⟩ = some (.int .i64 y.okind) := (hY.cell 13).trans rfl
  have x14 : W.cell? ⟨L, 14, none⟩ = some (.string ⟨x.oname.toArray⟩) := (hX.cell 14).trans rfl
  have y14 : W.cell? ⟨L + 1, 14, none⟩ = some (.string ⟨y.oname.toArray⟩) := (hY.cell 14).trans rfl
  have x15 : W.cell? ⟨L, 15, none⟩ = some (.int .i64 x.oa) := (hX.cell 15).trans rfl
  have y15 : W.cell? ⟨L + 1, 15, none⟩ = some (.int .i64 y.oa) := (hY.cell 15).trans rfl
  have x16 : W.cell? ⟨L, 16, none⟩ = some (.int .i64 x.ob) := (hX.cell 16).trans rfl
  have y16 : W.cell? ⟨L + 1, 16, none⟩ = some (.int .i64 y.ob) := (hY.cell 16).trans rfl
  have x17 : W.cell? ⟨L, 17, none⟩ = some (.int .i64 x.err) := (hX.cell 17).trans rfl
  have y17 : W.cell? ⟨L + 1, 17, none⟩ = some (.int .i64 y.err) := (hY.cell 17).trans rfl
  have x18 : W.cell? ⟨L, 18, none⟩ = some (.int .i64 x.value) := (hX.cell 18).trans rfl
  have y18 : W.cell? ⟨L + 1, 18, none⟩ = some (.int .i64 y.value) := (hY.cell 18).trans rfl
  have x19 : W.cell? ⟨L, 19, none⟩ = some (.slice ao x.views.length ca) := (hX.cell 19).trans rfl
  have y19 : W.cell? ⟨L + 1, 19, none⟩ = some (.slice bo y.views.length cb) := (hY.cell 19).trans rfl
  show Code.wp _ _ _ _ _
  refine wp_seq ?_
  refine wp_seq (wp_region_list ?_)
  refine ck0 (d := 5) hF (x.kind != y.kind) (.pointer (some ⟨L, 0, none⟩)) (.int .i64 x.kind) (.pointer (some ⟨L + 1, 0, none⟩)) (.int .i64 y.kind) h2 h3 (by omega) (by omega) rfl rfl rfl rfl rfl rfl rfl rfl rfl rfl (fun ev h => by simp only [execOp, h]; simp [go_sem]) (fun ev h => by simp only [execOp, h]; simp [go_sem, x0]) (fun ev h => by simp only [execOp, h]; simp [go_sem]) (fun ev h => by simp only [execOp, h]; simp [go_sem, y0]) (fun ev h h' => by simp only [execOp, h, h']; simp [go_sem, bne]) ?_
  intro a f hF h2 h3 hp
  refine mv (d := 10) (p := 9) hF h2 h3 hp (by omega) (by omega) (by omega) rfl rfl rfl ?_
  intro a f hF h2 h3 hp
  refine ck false (d := 11) (p := 10) (g := 5) hF (x.name != y.name) (.pointer (some ⟨L, 1, none⟩)) (.string ⟨x.name.toArray⟩) (.pointer (some ⟨L + 1, 1, none⟩)) (.string ⟨y.name.toArray⟩) h2 h3 hp rfl (by omega) (by omega) (by omega) rfl rfl rfl rfl rfl rfl rfl rfl rfl rfl rfl rfl (fun ev h => by simp only [execOp, h]; simp [go_sem]) (fun ev h => by simp only [execOp, h]; simp [go_sem, x1]) (fun ev h => by simp only [execOp, h]; simp [go_sem]) (fun ev h => by simp only [execOp, h]; simp [go_sem, y1]) (fun ev h h' => by simp only [execOp, h, h']; simp [go_sem, bne]) rfl ?_
  intro a f hF h2 h3 hp
  refine mv (d := 17) (p := 16) hF h2 h3 hp (by omega) (by omega) (by omega) rfl rfl rfl ?_
  intro a f hF h2 h3 hp
  refine ck false (d := 18) (p := 17) (g := 12) hF (x.cap != y.cap) (.pointer (some ⟨L, 2, none⟩)) (.int .i64 x.cap) (.pointer (some ⟨L + 1, 2, none⟩)) (.int .i64 y.cap) h2 h3 hp rfl (by omega) (by omega) (by omega) rfl rfl rfl rfl rfl rfl rfl rfl rfl rfl rfl rfl (fun ev h => by simp only [execOp, h]; simp [go_sem]) (fun ev h => by simp only [execOp, h]; simp [go_sem, x2]) (fun ev h => by simp only [execOp, h]; simp [go_sem]) (fun ev h => by simp only [execOp, h]; simp [go_sem, y2]) (fun ev h h' => by simp only [execOp, h, h']; simp [go_sem, bne]) rfl ?_
  intro a f hF h2 h3 hp
  refine mv (d := 24) (p := 23) hF h2 h3 hp (by omega) (by omega) (by omega) rfl rfl rfl ?_
  intro a f hF h2 h3 hp
  refine ck false (d := 25) (p := 24) (g := 19) hF (x.recaps != y.recaps) (.pointer (some ⟨L, 3, none⟩)) (.int .i64 x.recaps) (.pointer (some ⟨L + 1, 3, none⟩)) (.int .i64 y.recaps) h2 h3 hp rfl (by omega) (by omega) (by omega) rfl rfl rfl rfl rfl rfl rfl rfl rfl rfl rfl rfl (fun ev h => by simp only [execOp, h]; simp [go_sem]) (fun ev h => by simp only [execOp, h]; simp [go_sem, x3]) (fun ev h => by simp only [execOp, h]; simp [go_sem]) (fun ev h => by simp only [execOp, h]; simp [go_sem, y3]) (fun ev h h' => by simp only [execOp, h, h']; simp [go_sem, bne]) rfl ?_
  intro a f hF h2 h3 hp
  refine mv (d := 31) (p := 30) hF h2 h3 hp (by omega) (by omega) (by omega) rfl rfl rfl ?_
  intro a f hF h2 h3 hp
  refine ck false (d := 32) (p := 31) (g := 26) hF (!(x.round == y.round && x.rank == y.rank)) (.pointer (some ⟨L, 4, none⟩)) (.agg #[.int .i64 x.round, .int .i64 x.rank]) (.pointer (some ⟨L + 1, 4, none⟩)) (.agg #[.int .i64 y.round, .int .i64 y.rank]) h2 h3 hp rfl (by omega) (by omega) (by omega) rfl rfl rfl rfl rfl rfl rfl rfl rfl rfl rfl rfl (fun ev h => by simp only [execOp, h]; simp [go_sem]) (fun ev h => by simp only [execOp, h]; simp [go_sem, x4, x5]) (fun ev h => by simp only [execOp, h]; simp [go_sem]) (fun ev h => by simp only [execOp, h]; simp [go_sem, y4, y5]) (fun ev h h' => by simp only [execOp, h, h', Sem.run_bind, neq25]; simp [go_sem]) rfl ?_
  intro a f hF h2 h3 hp
  refine mv (d := 38) (p := 37) hF h2 h3 hp (by omega) (by omega) (by omega) rfl rfl rfl ?_
  intro a f hF h2 h3 hp
  refine ck false (d := 39) (p := 38) (g := 33) hF (!(x.oround == y.oround && x.orank == y.orank)) (.pointer (some ⟨L, 6, none⟩)) (.agg #[.int .i64 x.oround, .int .i64 x.orank]) (.pointer (some ⟨L + 1, 6, none⟩)) (.agg #[.int .i64 y.oround, .int .i64 y.orank]) h2 h3 hp rfl (by omega) (by omega) (by omega) rfl rfl rfl rfl rfl rfl rfl rfl rfl rfl rfl rfl (fun ev h => by simp only [execOp, h]; simp [go_sem]) (fun ev h => by simp only [execOp, h]; simp [go_sem, x6, x7]) (fun ev h => by simp only [execOp, h]; simp [go_sem]) (fun ev h => by simp only [execOp, h]; simp [go_sem, y6, y7]) (fun ev h h' => by simp only [execOp, h, h', Sem.run_bind, neq25]; simp [go_sem]) rfl ?_
  intro a f hF h2 h3 hp
  have hp1 : f 44 = .bool (ne1 x y) := hp
  clear hp
  refine wpList_nil ?_
  show Code.wp _ _ _ _ _
  cases hn : ne1 x y with
  | true =>
    rw [hn] at hp1
    refine wp_cond_true ((hF.eval 44 (by omega)).trans hp1) ?_
    refine wp_seq (wp_region_list ?_)
    refine sz hF (v := .bool false) (by simp [execOp, Act.eval]) fun a8 G8 => ?_
    refine wpList_nil ?_
    show Code.wp _ _ _ _ _
    refine wp_ret ?_
    have h4 : a8.tmps.getD 4 undef = .bool (false) := by
      have := G8.eval 4 (by omega)
      simpa [Act.eval, upd] using this
    try simp only [Exit.then]
    refine bodyPost_ret (results_tmp Try.results47 _ _ _) G8.defers ?_
    exact ⟨by rw [h4]; simp [ralikeB, hn], hbl⟩
  | false =>
    rw [hn] at hp1
    refine wp_cond_false ((hF.eval 44 (by omega)).trans hp1) ?_
    refine wp_skip ?_
    show Code.wp _ _ _ _ _
    refine wp_seq (wp_region_list ?_)
    refine ck0 (d := 45) hF ((x.down == y.down && x.up == y.up)) (.pointer (some ⟨L, 8, none⟩)) (.agg #[.int .i64 x.down, .int .i64 x.up]) (.pointer (some ⟨L + 1, 8, none⟩)) (.agg #[.int .i64 y.down, .int .i64 y.up]) h2 h3 (by omega) (by omega) rfl rfl rfl rfl rfl rfl rfl rfl rfl rfl (fun ev h => by simp only [execOp, h]; simp [go_sem]) (fun ev h => by simp only [execOp, h]; simp [go_sem, x8, x9]) (fun ev h => by simp only [execOp, h]; simp [go_sem]) (fun ev h => by simp only [execOp, h]; simp [go_sem, y8, y9]) (fun ev h h' => by simp only [execOp, h, h', Sem.run_bind, eql27]; simp [go_sem]) ?_
    intro a f hF h2 h3 hp
    refine mv (d := 50) (p := 49) hF h2 h3 hp (by omega) (by omega) (by omega) rfl rfl rfl ?_
    intro a f hF h2 h3 hp
    refine ck true (d := 51) (p := 50) (g := 5) hF (x.held == y.held) (.pointer (some ⟨L, 10, none⟩)) (.int .i64 x.held) (.pointer (some ⟨L + 1, 10, none⟩)) (.int .i64 y.held) h2 h3 hp rfl (by omega) (by omega) (by omega) rfl rfl rfl rfl rfl rfl rfl rfl rfl rfl rfl rfl (fun ev h => by simp only [execOp, h]; simp [go_sem]) (fun ev h => by simp only [execOp, h]; simp [go_sem, x10]) (fun ev h => by simp only [execOp, h]; simp [go_sem]) (fun ev h => by simp only [execOp, h]; simp [go_sem, y10]) (fun ev h h' => by simp only [execOp, h, h']; simp [go_sem, bne]) rfl ?_
    intro a f hF h2 h3 hp
    refine mv (d := 57) (p := 56) hF h2 h3 hp (by omega) (by omega) (by omega) rfl rfl rfl ?_
    intro a f hF h2 h3 hp
    refine ck true (d := 58) (p := 57) (g := 12) hF ((x.session == y.session && x.id == y.id)) (.pointer (some ⟨L, 11, none⟩)) (.agg #[.int .i64 x.session, .int .i64 x.id]) (.pointer (some ⟨L + 1, 11, none⟩)) (.agg #[.int .i64 y.session, .int .i64 y.id]) h2 h3 hp rfl (by omega) (by omega) (by omega) rfl rfl rfl rfl rfl rfl rfl rfl rfl rfl rfl rfl (fun ev h => by simp only [execOp, h]; simp [go_sem]) (fun ev h => by simp only [execOp, h]; simp [go_sem, x11, x12]) (fun ev h => by simp only [execOp, h]; simp [go_sem]) (fun ev h => by simp only [execOp, h]; simp [go_sem, y11, y12]) (fun ev h h' => by simp only [execOp, h, h', Sem.run_bind, eql29]; simp [go_sem]) rfl ?_
    intro a f hF h2 h3 hp
    refine mv (d := 64) (p := 63) hF h2 h3 hp (by omega) (by omega) (by omega) rfl rfl rfl ?_
    intro a f hF h2 h3 hp
    refine ck true (d := 65) (p := 64) (g := 19) hF ((x.okind == y.okind && x.oname == y.oname && x.oa == y.oa && x.ob == y.ob)) (.pointer (some ⟨L, 13, none⟩)) (.agg #[.int .i64 x.okind, .string ⟨x.oname.toArray⟩, .int .i64 x.oa, .int .i64 x.ob]) (.pointer (some ⟨L + 1, 13, none⟩)) (.agg #[.int .i64 y.okind, .string ⟨y.oname.toArray⟩, .int .i64 y.oa, .int .i64 y.ob]) h2 h3 hp rfl (by omega) (by omega) (by omega) rfl rfl rfl rfl rfl rfl rfl rfl rfl rfl rfl rfl (fun ev h => by simp only [execOp, h]; simp [go_sem]) (fun ev h => by simp only [execOp, h]; simp [go_sem, x13, x14, x15, x16]) (fun ev h => by simp only [execOp, h]; simp [go_sem]) (fun ev h => by simp only [execOp, h]; simp [go_sem, y13, y14, y15, y16]) (fun ev h h' => by simp only [execOp, h, h', Sem.run_bind, eql31]; simp [go_sem]) rfl ?_
    intro a f hF h2 h3 hp
    refine mv (d := 71) (p := 70) hF h2 h3 hp (by omega) (by omega) (by omega) rfl rfl rfl ?_
    intro a f hF h2 h3 hp
    refine ck true (d := 72) (p := 71) (g := 26) hF (x.err == y.err) (.pointer (some ⟨L, 17, none⟩)) (.int .i64 x.err) (.pointer (some ⟨L + 1, 17, none⟩)) (.int .i64 y.err) h2 h3 hp rfl (by omega) (by omega) (by omega) rfl rfl rfl rfl rfl rfl rfl rfl rfl rfl rfl rfl (fun ev h => by simp only [execOp, h]; simp [go_sem]) (fun ev h => by simp only [execOp, h]; simp [go_sem, x17]) (fun ev h => by simp only [execOp, h]; simp [go_sem]) (fun ev h => by simp only [execOp, h]; simp [go_sem, y17]) (fun ev h h' => by simp only [execOp, h, h']; simp [go_sem, bne]) rfl ?_
    intro a f hF h2 h3 hp
    refine mv (d := 78) (p := 77) hF h2 h3 hp (by omega) (by omega) (by omega) rfl rfl rfl ?_
    intro a f hF h2 h3 hp
    refine ck true (d := 79) (p := 78) (g := 33) hF (x.value == y.value) (.pointer (some ⟨L, 18, none⟩)) (.int .i64 x.value) (.pointer (some ⟨L + 1, 18, none⟩)) (.int .i64 y.value) h2 h3 hp rfl (by omega) (by omega) (by omega) rfl rfl rfl rfl rfl rfl rfl rfl rfl rfl rfl rfl (fun ev h => by simp only [execOp, h]; simp [go_sem]) (fun ev h => by simp only [execOp, h]; simp [go_sem, x18]) (fun ev h => by simp only [execOp, h]; simp [go_sem]) (fun ev h => by simp only [execOp, h]; simp [go_sem, y18]) (fun ev h h' => by simp only [execOp, h, h']; simp [go_sem, bne]) rfl ?_
    intro a f hF h2 h3 hp
    refine mv (d := 85) (p := 84) hF h2 h3 hp (by omega) (by omega) (by omega) rfl rfl rfl ?_
    intro a f hF h2 h3 hp
    have hp3 : f 85 = .bool (eq3 x y) := hp
    clear hp
    cases he : eq3 x y with
    | false =>
      rw [he] at hp3
      refine sm hF (hF.wg 85 false (by simp [upd, hp3])) fun a0 G0 => ?_
      refine sm G0 (G0.wg 85 false (by simp [upd, hp3])) fun a1 G1 => ?_
      refine sm G1 (G1.wg 85 false (by simp [upd, hp3])) fun a2 G2 => ?_
      refine sm G2 (G2.wg 85 false (by simp [upd, hp3])) fun a3 G3 => ?_
      refine sm G3 (G3.wg 85 false (by simp [upd, hp3])) fun a4 G4 => ?_
      refine sm G4 (G4.wg 85 false (by simp [upd, hp3])) fun a5 G5 => ?_
      refine sm G5 (G5.wg 85 false (by simp [upd, hp3])) fun a6 G6 => ?_
      refine sz G6 (v := .bool false) (pick_run _ rfl (P := false) ((G6.eval 85 (by omega)).trans (by simp [upd, hp3])) W rfl) fun a7 G7 => ?_
      refine sz G7 (v := .bool false) (by simp only [execOp, (G7.eval 93 (by omega)).trans (upd_eq _ _ _)]; rfl) fun a8 G8 => ?_
      refine wpList_nil ?_
      show Code.wp _ _ _ _ _
      refine wp_ret ?_
      have h4 : a8.tmps.getD 4 undef = .bool (false) := by
        have := G8.eval 4 (by omega)
        simpa [Act.eval, upd] using this
      try simp only [Exit.then]
      refine bodyPost_ret (results_tmp Try.results47 _ _ _) G8.defers ?_
      exact ⟨by rw [h4]; simp [ralikeB, hn, he], hbl⟩
    | true =>
      rw [he] at hp3
      refine sy hF rfl (by omega) (hF.wg 85 true (by simp [upd, hp3])) (v := .pointer (some ⟨L, 19, none⟩)) (by simp only [execOp, hF.eval 2 (by omega), h2]; simp [go_sem]) fun a0 G0 => ?_
      refine sy G0 rfl (by omega) (G0.wg 85 true (by simp [upd, hp3])) (v := .slice ao x.views.length ca) (by simp only [execOp, (G0.eval 86 (by omega)).trans (upd_eq _ _ _)]; simp [go_sem, x19]) fun a1 G1 => ?_
      refine sy G1 rfl (by omega) (G1.wg 85 true (by simp [upd, hp3])) (v := .int .i64 (x.views.length : Nat)) (by simp only [execOp, resolve, List.map_toArray, List.map_cons, List.map_nil, (G1.eval 87 (by omega)).trans (upd_eq _ _ _)]; simp [go_sem]) fun a2 G2 => ?_
      refine sy G2 rfl (by omega) (G2.wg 85 true (by simp [upd, hp3])) (v := .pointer (some ⟨L + 1, 19, none⟩)) (by simp only [execOp, G2.ev 3 (v := .pointer (some ⟨L + 1, 0, none⟩)) (by simp [upd, h3])]; simp [go_sem]) fun a3 G3 => ?_
      refine sy G3 rfl (by omega) (G3.wg 85 true (by simp [upd, hp3])) (v := .slice bo y.views.length cb) (by simp only [execOp, (G3.eval 89 (by omega)).trans (upd_eq _ _ _)]; simp [go_sem, y19]) fun a4 G4 => ?_
      refine sy G4 rfl (by omega) (G4.wg 85 true (by simp [upd, hp3])) (v := .int .i64 (y.views.length : Nat)) (by simp only [execOp, resolve, List.map_toArray, List.map_cons, List.map_nil, (G4.eval 90 (by omega)).trans (upd_eq _ _ _)]; simp [go_sem]) fun a5 G5 => ?_
      refine sy G5 rfl (by omega) (G5.wg 85 true (by simp [upd, hp3])) (v := .bool ((x.views.length : Int) == (y.views.length : Int))) (by simp only [execOp, G5.ev 88 (v := .int .i64 (x.views.length : Nat)) (by simp [upd]), (G5.eval 91 (by omega)).trans (upd_eq _ _ _)]; simp [go_sem]) fun a6 G6 => ?_
      refine sz G6 (v := .bool ((x.views.length : Int) == (y.views.length : Int))) (pick_run _ rfl (P := true) ((G6.eval 85 (by omega)).trans (by simp [upd, hp3])) W (by rw [if_pos rfl]; exact (G6.eval 92 (by omega)).trans (upd_eq _ _ _))) fun a7 G7 => ?_
      refine sz G7 (v := .bool ((x.views.length : Int) == (y.views.length : Int))) (by simp only [execOp, (G7.eval 93 (by omega)).trans (upd_eq _ _ _)]; rfl) fun a8 G8 => ?_
      refine wpList_nil ?_
      show Code.wp _ _ _ _ _
      refine wp_ret ?_
      have h4 : a8.tmps.getD 4 undef = .bool ((x.views.length : Int) == (y.views.length : Int)) := by
        have := G8.eval 4 (by omega)
        simpa [Act.eval, upd] using this
      try simp only [Exit.then]
      refine bodyPost_ret (results_tmp Try.results47 _ _ _) G8.defers ?_
      exact ⟨by rw [h4]; simp [ralikeB, hn, he], hbl⟩
end Go.Proofs.Ytfgnlfemckdfnaa
namespace Go.Proofs.Ytfgnlfemckdfnaa
open Go.RowKit Go.PlainAid
set_option linter.unusedSimpArgs false
theorem rshape_any (m : Msg) (ao : Option Addr) (cv : Nat) (w : World) (hk : 1 ≤ m.kind ∧ m.kind ≤ 10) :
    Calls Try.prog 48 #[.agg (msgCells m (.slice ao m.views.length cv))] w (fun e w' => e = .returned (.agg (msgCells (shapeM m) (.slice (shapeAo m.kind ao) (shapeM m).views.length (shapeCv m.kind cv)))) ∧ Below w.heap.size w w') := by
  rcases (show m.kind = 1 ∨ m.kind = 2 ∨ m.kind = 3 ∨ m.kind = 4 ∨ m.kind = 5 ∨ m.kind = 6 ∨ m.kind = 7 ∨ m.kind = 8 ∨ m.kind = 9 ∨ m.kind = 10 from by omega) with h | h | h | h | h | h | h | h | h | h
  · exact rshape1 m ao cv w h
  · by_cases h0 : m.err = 0
    · exact rshape2a m ao cv w h h0
    · by_cases h1 : m.err = 101
      · exact rshape2b m ao cv w h h1
      · exact rshape2c m ao cv w h h0 h1
  · exact rshape3 m ao cv w h
  · exact rshape4 m ao cv w h
  · exact rshape5 m ao cv w h
  · exact rshape6 m ao cv w h
  · exact rshape7 m ao cv w h
  · exact rshape8 m ao cv w h
  · exact rshape9 m ao cv w h
  · exact rshape10 m ao cv w h
def viewAgg (v : View) : Value := .agg #[Str v.name, .int .i64 v.cap, .int .i64 v.recaps, .int .i64 v.version, .int .i64 v.down, .int .i64 v.up, .int .i64 v.held]
set_option maxHeartbeats 800000 in
theorem rview_any (v : View) (w : World) (hl : v.name.length ≤ 140737488355328) : Calls Try.prog 80 #[viewAgg v] w fun e w' => e = .returned (.bool (rviewB v)) ∧ Below w.heap.size w w' := by
  have h1 := fun w => rknown_any v.name v.cap v.recaps w hl
  have h2 := fun w => rwithin_any v.version 0 1099511627776 w
  have h3 := fun w => rrights_any v.down v.up w
  have h4 := fun w => rwithin_any v.held 0 1099511627776 w
  unfold rviewB viewAgg
  generalize knownB v.name v.cap v.recaps = p at *
  generalize inB v.version 0 1099511627776 = q at *
  generalize rightsB v.down v.up = r at *
  generalize inB v.held 0 1099511627776 = s at *
  have H : Hid _ := And.intro h1 (And.intro h2 (And.intro h3 h4))
  clear h1 h2 h3 h4
  obtain ⟨name, cap, recaps, version, down, up, held⟩ := v
  simp only at *
  unfold Str at *
  cases p <;> cases q <;> cases r
  all_goals
    go_enter Try.func80, Try.ntmps80
    go_wp2_with (first | (go_at_call 53; refine (H.out.1 _).mono ?_; rintro e2 w2 ⟨rfl, rfl⟩) | (go_at_call 54; refine (H.out.2.2.1 _).mono ?_; rintro e3 w3 ⟨rfl, hb3⟩; have k6 := (Below.cell hb3 (p := ⟨w.heap.size, 6, none⟩) (by simp)).trans (show _ = some (Value.int .i64 held) from by rw [cell_of_row _ _ _ _ _ _ (heap_alloc_new w _)]; rfl); have HB3 : Hid _ := hb3; clear hb3) | (go_at_call 46; first | (with_reducible refine (H.out.2.1 _).mono ?_; rintro e2 w2 ⟨rfl, rfl⟩) | (with_reducible refine (H.out.2.2.2 _).mono ?_; rintro e2 w2 ⟨rfl, rfl⟩)))
    go_ret
    first | exact ⟨rfl, Below.trans (by go_grown) (HB3.out.mono (by simp))⟩ | exact ⟨rfl, by go_grown⟩
end Go.Proofs.Ytfgnlfemckdfnaa
namespace Go.Proofs.Ytfgnlfemckdfnaa
open Go.RowKit Go.PlainAid
set_option linter.unusedSimpArgs false
theorem leq_run (s a : List UInt8) (w : World) : (binOp .leq 9 (.string ⟨s.toArray⟩) (.string ⟨a.toArray⟩)).run Try.prog w = .ok (.bool (!gt s a)) w := by
  simp [go_sem, gt]
section
variable {ops : Array Oper} {C : World → Prop} {Q : Act → Prop} {a : Act} {rest : List Oper} {o : Oper} {f : Nat → Value} {N d : Nat}
theorem qy (hF : Fr N a f) (hd : o.dst = some d) (hN : d < N) (hw : Region.wanted o (yielded ops a.tmps) = true) {v : Value} (hr : ∀ w, C w → (execOp a.eval o).run Try.prog w = .ok (.value v) w) (h : ∀ a', Fr N a' (upd f d v) → wpQuiet Try.prog ops C Q rest a') : wpQuiet Try.prog ops C Q (o :: rest) a :=
  wpQuiet_step fun K hK => by
    rw [if_pos hw]
    refine ⟨v, fun w hw => ?_, hK _ (by rw [hd]; exact h _ (hF.put d v hN))⟩
    unfold Oper.quietAt
    rw [hr w hw]
    exact ⟨rfl, rfl⟩
theorem qn (hF : Fr N a f) (hd : o.dst = some d) (hN : d < N) (hw : Region.wanted o (yielded ops a.tmps) = false) (h : ∀ a', Fr N a' (upd f d undef) → wpQuiet Try.prog ops C Q rest a') : wpQuiet Try.prog ops C Q (o :: rest) a :=
  wpQuiet_step fun K hK => by
    rw [if_neg (by rw [hw]; simp)]
    exact hK _ (by rw [hd]; exact h _ (hF.put d undef hN))
theorem qc (hF : Fr N a f) (hd : o.dst = some d) (hN : d < N) (hw : Region.wanted o (yielded ops a.tmps) = true) {k : Nat} {args : Array Value} (hr : ∀ w, C w → (execOp a.eval o).run Try.prog w = .ok (.enter k args) w) {v : Value} (hc : ∀ w, C w → Calls Try.prog k args w fun e w' => e = .returned v ∧ C w')
    (h : ∀ a', Fr N a' (upd f d v) → wpQuiet Try.prog ops C Q rest a') : wpQuiet Try.prog ops C Q (o :: rest) a :=
  wpQuiet_step fun K hK => by
    rw [if_pos hw]
    refine ⟨v, fun w hw => ?_, hK _ (by rw [hd]; exact h _ (hF.put d v hN))⟩
    unfold Oper.quietAt
    rw [hr w hw]
    exact ⟨rfl, hc w hw⟩
end
theorem withFr {ops : Array Oper} {C : World → Prop} {Q : Act → Prop} {l : List Oper} {t : Array Value} {N : Nat} (ht : t.size = N) (h : ∀ a f, Fr N a f → (∀ j, f j = t.getD j undef) → wpQuiet Try.prog ops C Q l a) : wpQuiet Try.prog ops C Q l { tmps := t, defers := [] } :=
  h _ _ (Fr.ofLit t ht) fun _ => rfl
theorem doneFr {G : Prop} {N : Nat} {a : Act} {f : Nat → Value} {v0 v1 v3 v4 v5 v6 v36 : Value} (hF : Fr N a f) (k0 : f 0 = v0) (k1 : f 1 = v1) (k3 : f 3 = v3) (k4 : f 4 = v4) (k5 : f 5 = v5) (k6 : f 6 = v6) (k36 : f 36 = v36) (h : ∀ f', Fr N a f' → f' 0 = v0 → f' 1 = v1 → f' 3 = v3 → f' 4 = v4 → f' 5 = v5 → f' 6 = v6 → f' 36 = v36 → G) : G := h f hF k0 k1 k3 k4 k5 k6 k36
theorem vcellsB {w : World} {ao : Option Addr} {xs : List View} (h : VFrom w ao xs) (hsb : ∀ b o, ao = some ⟨b, o, none⟩ → 0 < xs.length → b < w.heap.size) {q : Nat} {x : View} (hq : xs[q]? = some x) :
    ∃ vb vo, ao = some ⟨vb, vo, none⟩ ∧ ∀ wr, Below w.heap.size w wr → wr.cell? ⟨vb, vo + q * 7, none⟩ = some (.string ⟨x.name.toArray⟩) ∧ wr.cell? ⟨vb, vo + q * 7 + 1, none⟩ = some (.int .i64 x.cap) ∧ wr.cell? ⟨vb, vo + q * 7 + 2, none⟩ = some (.int .i64 x.recaps) ∧ wr.cell? ⟨vb, vo + q * 7 + 3, none⟩ = some (.int .i64 x.version)
      ∧ wr.cell? ⟨vb, vo + q * 7 + 4, none⟩ = some (.int .i64 x.down) ∧ wr.cell? ⟨vb, vo + q * 7 + 5, none⟩ = some (.int .i64 x.up) ∧ wr.cell? ⟨vb, vo + q * 7 + 6, none⟩ = some (.int .i64 x.held) := by
  obtain ⟨vb, vo, e, hc⟩ := h q x hq
  refine ⟨vb, vo, e, fun wr hb => ?_⟩
  have k : ∀ o, wr.cell? ⟨vb, o, none⟩ = w.cell? ⟨vb, o, none⟩ := fun o => hb.cell (hsb vb vo e (by have := (List.getElem?_eq_some_iff.1 hq).1; omega))
  refine ⟨?_, ?_, ?_, ?_, ?_, ?_, ?_⟩
  · rw [k]; exact hc 0 _ rfl
  · rw [k]; exact hc 1 _ rfl
  · rw [k]; exact hc 2 _ rfl
  · rw [k]; exact hc 3 _ rfl
  · rw [k]; exact hc 4 _ rfl
  · rw [k]; exact hc 5 _ rfl
  · rw [k]; exact hc 6 _ rfl
def lastName (xs : List View) : Nat → List UInt8
  | 0 => []
  | k + 1 => match xs[k]? with
    | some x => x.name
    | none => []
set_option maxRecDepth 100000 in
set_option maxHeartbeats 1600000 in
theorem rviews_any (ao : Option Addr) (n c : Nat) (xs : List View) (w : World) (hxn : xs.length = n) (hx : VFrom w ao xs) (hsb : ∀ b o, ao = some ⟨b, o, none⟩ → 0 < xs.length → b < w.heap.size) (hnm : ∀ x ∈ xs, x.name.length ≤ 140737488355328) :
    Calls Try.prog 51 #[.slice ao n c] w (fun e w' => e = .returned (.bool (rviewsB xs)) ∧ Below w.heap.size w w') := by
  by_cases hn : 64 < n
  · have hf : rviewsB xs = false := by simp only [rviewsB]; rw [decide_eq_false (by omega)]; rfl
    rw [hf]
    clear hf hx hsb hnm
    go_enter Try.func51, Try.ntmps51
    go_wp2
    go_ret
    exact ⟨rfl, Below.refl _ _⟩
  have hR : rviewsB xs = rviewsFrom [] xs := by simp only [rviewsB]; rw [decide_eq_true (by omega)]; rfl
  rw [hR]
  clear hR
  have H : Hid _ := And.intro hx (And.intro hsb hnm)
  clear hx hsb hnm
  go_enter Try.func51, Try.ntmps51
  go_wp2
  go_loopw [3] (fun i wr => ∃ q : Nat, q ≤ n ∧ i = .int .i64 q ∧ Below w.heap.size w wr ∧ rviewsFrom [] xs = rviewsFrom (lastName xs q) (xs.drop q)) (fun i _ => n - (intOf i).toNat)
  case atStart => exact ⟨0, by omega, rfl, Below.refl _ _, rfl⟩
  case round =>
    obtain ⟨q, hq, rfl, hD, hall⟩ := hrel
    by_cases hlt : q < n
    · go_wp2_with fail
      refine wp_region_quiet (C := Below w.heap.size w) (by kernel_rfl) (by kernel_rfl) (by exact hD.drew) ?_
      refine withFr (N := 37) rfl ?_
      intro a f hF hf
      obtain ⟨x, hxq⟩ : ∃ x, xs[q]? = some x := ⟨_, List.getElem?_eq_getElem (by omega)⟩
      obtain ⟨hx, hsb, hnm⟩ := H.out
      obtain ⟨vb, vo, rfl, hcx⟩ := vcellsB hx hsb hxq
      have h0 : f 0 = .slice (some ⟨vb, vo, none⟩) n c := hf 0
      have h3 : f 3 = .int .i64 (q : Nat) := hf 3
      have h1 : f 1 = undef := hf 1
      have h4 : f 4 = .slice (some ⟨vb, vo, none⟩) n c := hf 4
      have h5 : f 5 = .int .i64 (n : Nat) := hf 5
      have h6 : f 6 = .bool (decide ((64 : Int) < (n : Nat))) := hf 6
      have hnx := hnm x (List.mem_of_getElem? hxq)
      have HX : Hid _ := hcx
      have hdrop : xs.drop q = x :: xs.drop (q + 1) := by
        rw [List.drop_eq_getElem_cons (by omega)]
        rw [List.getElem?_eq_getElem (by omega)] at hxq
        rw [Option.some.inj hxq]
      have hstep : rviewsFrom [] xs = (rviewB x && gt x.name (lastName xs q) && rviewsFrom x.name (xs.drop (q + 1))) := by rw [hall, hdrop]; rfl
      have hlast : lastName xs (q + 1) = x.name := by simp only [lastName, hxq]
      have HA : Hid _ := And.intro hstep hlast
      clear hall hdrop hstep hlast hcx
      cases hv : rviewB x
      · refine qy hF rfl (by omega) wn (v := .slice (some ⟨vb, vo, none⟩) n c) (fun wr hwr => by simp only [execOp, hF.ev 0 (v := .slice (some ⟨vb, vo, none⟩) n c) (by simp [upd, h0, h3])]; rfl) fun a1 F1 => ?_
        refine qy F1 rfl (by omega) wn (v := .int .i64 (q : Nat)) (fun wr hwr => by simp only [execOp, F1.ev 3 (v := .int .i64 (q : Nat)) (by simp [upd, h0, h3])]; rfl) fun a2 F2 => ?_
        refine qy F2 rfl (by omega) wn (v := .pointer (some ⟨vb, vo + q * 7, none⟩)) (fun wr hwr => by simp only [execOp, F2.ev 13 (v := .slice (some ⟨vb, vo, none⟩) n c) (by simp [upd, h0, h3]), F2.ev 14 (v := .int .i64 (q : Nat)) (by simp [upd, h0, h3])]; simp [go_sem, hlt]) fun a3 F3 => ?_
        refine qy F3 rfl (by omega) wn (v := viewAgg x) (fun wr hwr => by simp only [execOp, F3.ev 15 (v := .pointer (some ⟨vb, vo + q * 7, none⟩)) (by simp [upd, h0, h3])]; obtain ⟨x0, x1, x2, x3, x4, x5, x6⟩ := HX.out wr hwr; simp [go_sem, x0, x1, x2, x3, x4, x5, x6, viewAgg, Str]) fun a4 F4 => ?_
        refine qc F4 rfl (by omega) wn (k := 80) (args := #[viewAgg x]) (v := .bool false) (fun wr hwr => by simp only [execOp, resolve, invoke, List.map_toArray, List.map_cons, List.map_nil, F4.ev 16 (v := viewAgg x) (by simp [upd, h0, h3])]; simp [go_sem, Act.eval]) (fun wr hwr => (rview_any x wr hnx).mono fun e w' ⟨he, hb⟩ => ⟨by rw [he, hv], hwr.trans (hb.mono hwr.size)⟩) fun a5 F5 => ?_
        refine qy F5 rfl (by omega) wn (v := .bool true) (fun wr hwr => by simp only [execOp, F5.ev 17 (v := .bool false) (by simp [upd, h0, h3])]; simp [go_sem]) fun a6 F6 => ?_
        refine qy F6 rfl (by omega) wn (v := .bool true) (fun wr hwr => by simp only [execOp, F6.ev 18 (v := .bool true) (by simp [upd, h0, h3])]; rfl) fun a7 F7 => ?_
        refine qn F7 rfl (by omega) (F7.wg 19 true) fun a8 F8 => ?_
        refine qn F8 rfl (by omega) (F8.wg 19 true) fun a9 F9 => ?_
        refine qn F9 rfl (by omega) (F9.wg 19 true) fun a10 F10 => ?_
        refine qn F10 rfl (by omega) (by rw [wanted_some rfl, F10.yieldsNot (d := 22) rfl (by omega) (by simp [upd])]; rfl) fun a11 F11 => ?_
        refine qn F11 rfl (by omega) (by rw [wanted_some rfl, F11.yieldsNot (d := 22) rfl (by omega) (by simp [upd])]; rfl) fun a12 F12 => ?_
        refine qn F12 rfl (by omega) (by rw [wanted_some rfl, F12.yieldsNot (d := 22) rfl (by omega) (by simp [upd])]; rfl) fun a13 F13 => ?_
        refine qn F13 rfl (by omega) (by rw [wanted_some rfl, F13.yieldsNot (d := 22) rfl (by omega) (by simp [upd])]; rfl) fun a14 F14 => ?_
        refine qn F14 rfl (by omega) (by rw [wanted_some rfl, F14.yieldsNot (d := 22) rfl (by omega) (by simp [upd])]; rfl) fun a15 F15 => ?_
        refine qn F15 rfl (by omega) (by rw [wanted_some rfl, F15.yieldsNot (d := 22) rfl (by omega) (by simp [upd])]; rfl) fun a16 F16 => ?_
        refine qn F16 rfl (by omega) (by rw [wanted_some rfl, F16.yieldsNot (d := 22) rfl (by omega) (by simp [upd])]; rfl) fun a17 F17 => ?_
        refine qn F17 rfl (by omega) (by rw [wanted_some rfl, F17.yieldsNot (d := 22) rfl (by omega) (by simp [upd])]; rfl) fun a18 F18 => ?_
        refine qn F18 rfl (by omega) (by rw [wanted_some rfl, F18.yieldsNot (d := 22) rfl (by omega) (by simp [upd])]; rfl) fun a19 F19 => ?_
        refine qn F19 rfl (by omega) (by rw [wanted_some rfl, F19.yieldsNot (d := 22) rfl (by omega) (by simp [upd])]; rfl) fun a20 F20 => ?_
        refine qn F20 rfl (by omega) (by rw [wanted_some rfl, F20.yieldsNot (d := 22) rfl (by omega) (by simp [upd])]; rfl) fun a21 F21 => ?_
        refine qn F21 rfl (by omega) (by rw [wanted_some rfl, F21.yieldsNot (d := 22) rfl (by omega) (by simp [upd])]; rfl) fun a22 F22 => ?_
        refine qn F22 rfl (by omega) (F22.wg 19 true) fun a23 F23 => ?_
        refine qy F23 rfl (by omega) wn (v := .bool true) (fun wr hwr => pick_run _ rfl (P := true) ((F23.eval 19 (by omega)).trans (by simp [upd])) wr rfl) fun a24 F24 => ?_
        refine wpQuiet_nil fun wr hwr => ?_
        refine doneFr (v0 := Value.slice (some ⟨vb, vo, none⟩) n c) (v3 := Value.int .i64 (q : Nat)) F24 (by simp [upd, h0]) (show _ = undef from by simp [upd, h1]) (by simp [upd, h3]) (show _ = Value.slice (some ⟨vb, vo, none⟩) n c from by simp [upd, h4]) (show _ = Value.int .i64 (n : Nat) from by simp [upd, h5]) (show _ = Value.bool (decide ((64 : Int) < (n : Nat))) from by simp [upd, h6]) (upd_eq _ _ _) fun f' F' k0 k1 k3 k4 k5 k6 k36 => ?_
        clear hF F1 F2 F3 F4 F5 F6 F7 F8 F9 F10 F11 F12 F13 F14 F15 F16 F17 F18 F19 F20 F21 F22 F23 F24 hf h0 h3 h1 h4 h5 h6
        rw [F'.lit, show ((List.range 37).map f').toArray = #[f' 0, f' 1, f' 2, f' 3, f' 4, f' 5, f' 6, f' 7, f' 8, f' 9, f' 10, f' 11, f' 12, f' 13, f' 14, f' 15, f' 16, f' 17, f' 18, f' 19, f' 20, f' 21, f' 22, f' 23, f' 24, f' 25, f' 26, f' 27, f' 28, f' 29, f' 30, f' 31, f' 32, f' 33, f' 34, f' 35, f' 36] from rfl, k0, k1, k3, k4, k5, k6, k36]
        go_wp2
        go_ret
        exact ⟨ret_bool (by rw [HA.out.1]; simp [hv]), hwr⟩
      · by_cases hq0 : q = 0
        · refine qy hF rfl (by omega) wn (v := .slice (some ⟨vb, vo, none⟩) n c) (fun wr hwr => by simp only [execOp, hF.ev 0 (v := .slice (some ⟨vb, vo, none⟩) n c) (by simp [upd, h0, h3])]; rfl) fun a1 F1 => ?_
          refine qy F1 rfl (by omega) wn (v := .int .i64 (q : Nat)) (fun wr hwr => by simp only [execOp, F1.ev 3 (v := .int .i64 (q : Nat)) (by simp [upd, h0, h3])]; rfl) fun a2 F2 => ?_
          refine qy F2 rfl (by omega) wn (v := .pointer (some ⟨vb, vo + q * 7, none⟩)) (fun wr hwr => by simp only [execOp, F2.ev 13 (v := .slice (some ⟨vb, vo, none⟩) n c) (by simp [upd, h0, h3]), F2.ev 14 (v := .int .i64 (q : Nat)) (by simp [upd, h0, h3])]; simp [go_sem, hlt]) fun a3 F3 => ?_
          refine qy F3 rfl (by omega) wn (v := viewAgg x) (fun wr hwr => by simp only [execOp, F3.ev 15 (v := .pointer (some ⟨vb, vo + q * 7, none⟩)) (by simp [upd, h0, h3])]; obtain ⟨x0, x1, x2, x3, x4, x5, x6⟩ := HX.out wr hwr; simp [go_sem, x0, x1, x2, x3, x4, x5, x6, viewAgg, Str]) fun a4 F4 => ?_
          refine qc F4 rfl (by omega) wn (k := 80) (args := #[viewAgg x]) (v := .bool true) (fun wr hwr => by simp only [execOp, resolve, invoke, List.map_toArray, List.map_cons, List.map_nil, F4.ev 16 (v := viewAgg x) (by simp [upd, h0, h3])]; simp [go_sem, Act.eval]) (fun wr hwr => (rview_any x wr hnx).mono fun e w' ⟨he, hb⟩ => ⟨by rw [he, hv], hwr.trans (hb.mono hwr.size)⟩) fun a5 F5 => ?_
          refine qy F5 rfl (by omega) wn (v := .bool false) (fun wr hwr => by simp only [execOp, F5.ev 17 (v := .bool true) (by simp [upd, h0, h3])]; simp [go_sem]) fun a6 F6 => ?_
          refine qy F6 rfl (by omega) wn (v := .bool false) (fun wr hwr => by simp only [execOp, F6.ev 18 (v := .bool false) (by simp [upd, h0, h3])]; rfl) fun a7 F7 => ?_
          refine qy F7 rfl (by omega) (F7.wg 19 false) (v := .int .i64 (q : Nat)) (fun wr hwr => by simp only [execOp, F7.ev 3 (v := .int .i64 (q : Nat)) (by simp [upd, h0, h3])]; rfl) fun a8 F8 => ?_
          have hpos : decide ((0 : Int) < (q : Nat)) = false := by simp; omega
          refine qy F8 rfl (by omega) (F8.wg 19 false) (v := .bool false) (fun wr hwr => by simp only [execOp, F8.ev 20 (v := .int .i64 (q : Nat)) (by simp [upd, h0, h3])]; simp only [Act.eval]; simp [go_sem, hpos]; try omega) fun a9 F9 => ?_
          refine qy F9 rfl (by omega) (F9.wg 19 false) (v := .bool false) (fun wr hwr => by simp only [execOp, F9.ev 21 (v := .bool false) (by simp [upd, h0, h3])]; rfl) fun a10 F10 => ?_
          refine qn F10 rfl (by omega) (F10.wg 22 false) fun a11 F11 => ?_
          refine qn F11 rfl (by omega) (F11.wg 22 false) fun a12 F12 => ?_
          refine qn F12 rfl (by omega) (F12.wg 22 false) fun a13 F13 => ?_
          refine qn F13 rfl (by omega) (F13.wg 22 false) fun a14 F14 => ?_
          refine qn F14 rfl (by omega) (F14.wg 22 false) fun a15 F15 => ?_
          refine qn F15 rfl (by omega) (F15.wg 22 false) fun a16 F16 => ?_
          refine qn F16 rfl (by omega) (F16.wg 22 false) fun a17 F17 => ?_
          refine qn F17 rfl (by omega) (F17.wg 22 false) fun a18 F18 => ?_
          refine qn F18 rfl (by omega) (F18.wg 22 false) fun a19 F19 => ?_
          refine qn F19 rfl (by omega) (F19.wg 22 false) fun a20 F20 => ?_
          refine qn F20 rfl (by omega) (F20.wg 22 false) fun a21 F21 => ?_
          refine qn F21 rfl (by omega) (F21.wg 22 false) fun a22 F22 => ?_
          refine qy F22 rfl (by omega) (F22.wg 19 false) (v := .bool false) (fun wr hwr => pick_run _ rfl (P := false) ((F22.eval 22 (by omega)).trans (by simp [upd])) wr rfl) fun a23 F23 => ?_
          refine qy F23 rfl (by omega) wn (v := .bool false) (fun wr hwr => pick_run _ rfl (P := false) ((F23.eval 19 (by omega)).trans (by simp [upd])) wr (by rw [if_neg (by decide)]; exact (F23.eval 35 (by omega)).trans (upd_eq _ _ _))) fun a24 F24 => ?_
          refine wpQuiet_nil fun wr hwr => ?_
          refine doneFr (v0 := Value.slice (some ⟨vb, vo, none⟩) n c) (v3 := Value.int .i64 (q : Nat)) F24 (by simp [upd, h0]) (show _ = undef from by simp [upd, h1]) (by simp [upd, h3]) (show _ = Value.slice (some ⟨vb, vo, none⟩) n c from by simp [upd, h4]) (show _ = Value.int .i64 (n : Nat) from by simp [upd, h5]) (show _ = Value.bool (decide ((64 : Int) < (n : Nat))) from by simp [upd, h6]) (upd_eq _ _ _) fun f' F' k0 k1 k3 k4 k5 k6 k36 => ?_
          clear hF F1 F2 F3 F4 F5 F6 F7 F8 F9 F10 F11 F12 F13 F14 F15 F16 F17 F18 F19 F20 F21 F22 F23 F24 hf h0 h3 h1 h4 h5 h6
          rw [F'.lit, show ((List.range 37).map f').toArray = #[f' 0, f' 1, f' 2, f' 3, f' 4, f' 5, f' 6, f' 7, f' 8, f' 9, f' 10, f' 11, f' 12, f' 13, f' 14, f' 15, f' 16, f' 17, f' 18, f' 19, f' 20, f' 21, f' 22, f' 23, f' 24, f' 25, f' 26, f' 27, f' 28, f' 29, f' 30, f' 31, f' 32, f' 33, f' 34, f' 35, f' 36] from rfl, k0, k1, k3, k4, k5, k6, k36]
          go_wp2
          go_roundw
          case rel => exact ⟨q + 1, by omega, by go_num, hwr, by rw [HA.out.1, HA.out.2]; subst hq0; rw [hv, show gt x.name (lastName xs 0) = true from gt_nil (by have := hv; simp only [rviewB, knownB, nameB, Bool.and_eq_true, decide_eq_true_eq] at this; omega)]; rfl⟩
          case measure => simp [intOf]; omega
        · obtain ⟨y, hyq⟩ : ∃ y, xs[q - 1]? = some y := ⟨_, List.getElem?_eq_getElem (by omega)⟩
          obtain ⟨vb', vo', e', hcy⟩ := vcellsB hx hsb hyq
          cases e'
          have HY : Hid _ := hcy
          have hlt1 : ((q - 1 : Nat) : Int) < n := by omega
          have hln : lastName xs q = y.name := by
            obtain ⟨k, rfl⟩ : ∃ k, q = k + 1 := ⟨q - 1, by omega⟩
            simp only [lastName, show xs[k]? = some y from hyq]
          have HN : Hid _ := hln
          clear hcy hln
          refine qy hF rfl (by omega) wn (v := .slice (some ⟨vb, vo, none⟩) n c) (fun wr hwr => by simp only [execOp, hF.ev 0 (v := .slice (some ⟨vb, vo, none⟩) n c) (by simp [upd, h0, h3])]; rfl) fun a1 F1 => ?_
          refine qy F1 rfl (by omega) wn (v := .int .i64 (q : Nat)) (fun wr hwr => by simp only [execOp, F1.ev 3 (v := .int .i64 (q : Nat)) (by simp [upd, h0, h3])]; rfl) fun a2 F2 => ?_
          refine qy F2 rfl (by omega) wn (v := .pointer (some ⟨vb, vo + q * 7, none⟩)) (fun wr hwr => by simp only [execOp, F2.ev 13 (v := .slice (some ⟨vb, vo, none⟩) n c) (by simp [upd, h0, h3]), F2.ev 14 (v := .int .i64 (q : Nat)) (by simp [upd, h0, h3])]; simp [go_sem, hlt]) fun a3 F3 => ?_
          refine qy F3 rfl (by omega) wn (v := viewAgg x) (fun wr hwr => by simp only [execOp, F3.ev 15 (v := .pointer (some ⟨vb, vo + q * 7, none⟩)) (by simp [upd, h0, h3])]; obtain ⟨x0, x1, x2, x3, x4, x5, x6⟩ := HX.out wr hwr; simp [go_sem, x0, x1, x2, x3, x4, x5, x6, viewAgg, Str]) fun a4 F4 => ?_
          refine qc F4 rfl (by omega) wn (k := 80) (args := #[viewAgg x]) (v := .bool true) (fun wr hwr => by simp only [execOp, resolve, invoke, List.map_toArray, List.map_cons, List.map_nil, F4.ev 16 (v := viewAgg x) (by simp [upd, h0, h3])]; simp [go_sem, Act.eval]) (fun wr hwr => (rview_any x wr hnx).mono fun e w' ⟨he, hb⟩ => ⟨by rw [he, hv], hwr.trans (hb.mono hwr.size)⟩) fun a5 F5 => ?_
          refine qy F5 rfl (by omega) wn (v := .bool false) (fun wr hwr => by simp only [execOp, F5.ev 17 (v := .bool true) (by simp [upd, h0, h3])]; simp [go_sem]) fun a6 F6 => ?_
          refine qy F6 rfl (by omega) wn (v := .bool false) (fun wr hwr => by simp only [execOp, F6.ev 18 (v := .bool false) (by simp [upd, h0, h3])]; rfl) fun a7 F7 => ?_
          refine qy F7 rfl (by omega) (F7.wg 19 false) (v := .int .i64 (q : Nat)) (fun wr hwr => by simp only [execOp, F7.ev 3 (v := .int .i64 (q : Nat)) (by simp [upd, h0, h3])]; rfl) fun a8 F8 => ?_
          have hpos : decide ((0 : Int) < (q : Nat)) = true := by simp; omega
          refine qy F8 rfl (by omega) (F8.wg 19 false) (v := .bool true) (fun wr hwr => by simp only [execOp, F8.ev 20 (v := .int .i64 (q : Nat)) (by simp [upd, h0, h3])]; simp only [Act.eval]; simp [go_sem, hpos]; try omega) fun a9 F9 => ?_
          refine qy F9 rfl (by omega) (F9.wg 19 false) (v := .bool true) (fun wr hwr => by simp only [execOp, F9.ev 21 (v := .bool true) (by simp [upd, h0, h3])]; rfl) fun a10 F10 => ?_
          refine qy F10 rfl (by omega) (F10.wg 22 true) (v := .slice (some ⟨vb, vo, none⟩) n c) (fun wr hwr => by simp only [execOp, F10.ev 0 (v := .slice (some ⟨vb, vo, none⟩) n c) (by simp [upd, h0, h3])]; rfl) fun a11 F11 => ?_
          refine qy F11 rfl (by omega) (F11.wg 22 true) (v := .int .i64 (q : Nat)) (fun wr hwr => by simp only [execOp, F11.ev 3 (v := .int .i64 (q : Nat)) (by simp [upd, h0, h3])]; rfl) fun a12 F12 => ?_
          refine qy F12 rfl (by omega) (F12.wg 22 true) (v := .pointer (some ⟨vb, vo + q * 7, none⟩)) (fun wr hwr => by simp only [execOp, F12.ev 23 (v := .slice (some ⟨vb, vo, none⟩) n c) (by simp [upd, h0, h3]), F12.ev 24 (v := .int .i64 (q : Nat)) (by simp [upd, h0, h3])]; simp [go_sem, hlt]) fun a13 F13 => ?_
          refine qy F13 rfl (by omega) (F13.wg 22 true) (v := .pointer (some ⟨vb, vo + q * 7, none⟩)) (fun wr hwr => by simp only [execOp, F13.ev 25 (v := .pointer (some ⟨vb, vo + q * 7, none⟩)) (by simp [upd, h0, h3])]; simp [go_sem]) fun a14 F14 => ?_
          refine qy F14 rfl (by omega) (F14.wg 22 true) (v := .string ⟨x.name.toArray⟩) (fun wr hwr => by simp only [execOp, F14.ev 26 (v := .pointer (some ⟨vb, vo + q * 7, none⟩)) (by simp [upd, h0, h3])]; obtain ⟨x0, _⟩ := HX.out wr hwr; simp [go_sem, x0]) fun a15 F15 => ?_
          refine qy F15 rfl (by omega) (F15.wg 22 true) (v := .slice (some ⟨vb, vo, none⟩) n c) (fun wr hwr => by simp only [execOp, F15.ev 0 (v := .slice (some ⟨vb, vo, none⟩) n c) (by simp [upd, h0, h3])]; rfl) fun a16 F16 => ?_
          refine qy F16 rfl (by omega) (F16.wg 22 true) (v := .int .i64 (q : Nat)) (fun wr hwr => by simp only [execOp, F16.ev 3 (v := .int .i64 (q : Nat)) (by simp [upd, h0, h3])]; rfl) fun a17 F17 => ?_
          refine qy F17 rfl (by omega) (F17.wg 22 true) (v := .int .i64 ((q - 1 : Nat) : Int)) (fun wr hwr => by simp only [execOp, F17.ev 29 (v := .int .i64 (q : Nat)) (by simp [upd, h0, h3])]; show Sem.run Try.prog (do let r ← (do eqGuard BinOp.sub 3 (.tmp 29) (.const (.int .i64 1)) (.int .i64 (q : Nat)) (.int .i64 1); binOp .sub 3 (.int .i64 (q : Nat)) (.int .i64 1)); pure (Next.value r)) wr = _; simp [go_sem]; rw [IntKind.wrap_i64]; omega) fun a18 F18 => ?_
          refine qy F18 rfl (by omega) (F18.wg 22 true) (v := .pointer (some ⟨vb, vo + (q - 1) * 7, none⟩)) (fun wr hwr => by simp only [execOp, F18.ev 28 (v := .slice (some ⟨vb, vo, none⟩) n c) (by simp [upd, h0, h3]), F18.ev 30 (v := .int .i64 ((q - 1 : Nat) : Int)) (by simp [upd, h0, h3])]; simp [go_sem, hlt1]) fun a19 F19 => ?_
          refine qy F19 rfl (by omega) (F19.wg 22 true) (v := .pointer (some ⟨vb, vo + (q - 1) * 7, none⟩)) (fun wr hwr => by simp only [execOp, F19.ev 31 (v := .pointer (some ⟨vb, vo + (q - 1) * 7, none⟩)) (by simp [upd, h0, h3])]; simp [go_sem]) fun a20 F20 => ?_
          refine qy F20 rfl (by omega) (F20.wg 22 true) (v := .string ⟨y.name.toArray⟩) (fun wr hwr => by simp only [execOp, F20.ev 32 (v := .pointer (some ⟨vb, vo + (q - 1) * 7, none⟩)) (by simp [upd, h0, h3])]; obtain ⟨y0, _⟩ := HY.out wr hwr; simp [go_sem, y0]) fun a21 F21 => ?_
          refine qy F21 rfl (by omega) (F21.wg 22 true) (v := .bool (!gt x.name y.name)) (fun wr hwr => by simp only [execOp, F21.ev 27 (v := .string ⟨x.name.toArray⟩) (by simp [upd, h0, h3]), F21.ev 33 (v := .string ⟨y.name.toArray⟩) (by simp [upd, h0, h3])]; simp only [Sem.run_bind, leq_run]; simp [go_sem]) fun a22 F22 => ?_
          refine qy F22 rfl (by omega) (F22.wg 19 false) (v := .bool (!gt x.name y.name)) (fun wr hwr => pick_run _ rfl (P := true) ((F22.eval 22 (by omega)).trans (by simp [upd])) wr (by rw [if_pos rfl]; exact (F22.eval 34 (by omega)).trans (upd_eq _ _ _))) fun a23 F23 => ?_
          refine qy F23 rfl (by omega) wn (v := .bool (!gt x.name y.name)) (fun wr hwr => pick_run _ rfl (P := false) ((F23.eval 19 (by omega)).trans (by simp [upd])) wr (by rw [if_neg (by decide)]; exact (F23.eval 35 (by omega)).trans (upd_eq _ _ _))) fun a24 F24 => ?_
          refine wpQuiet_nil fun wr hwr => ?_
          refine doneFr (v0 := Value.slice (some ⟨vb, vo, none⟩) n c) (v3 := Value.int .i64 (q : Nat)) F24 (by simp [upd, h0]) (show _ = undef from by simp [upd, h1]) (by simp [upd, h3]) (show _ = Value.slice (some ⟨vb, vo, none⟩) n c from by simp [upd, h4]) (show _ = Value.int .i64 (n : Nat) from by simp [upd, h5]) (show _ = Value.bool (decide ((64 : Int) < (n : Nat))) from by simp [upd, h6]) (upd_eq _ _ _) fun f' F' k0 k1 k3 k4 k5 k6 k36 => ?_
          clear hF F1 F2 F3 F4 F5 F6 F7 F8 F9 F10 F11 F12 F13 F14 F15 F16 F17 F18 F19 F20 F21 F22 F23 F24 hf h0 h3 h1 h4 h5 h6
          cases hg : gt x.name y.name
          · rw [hg] at k36
            rw [F'.lit, show ((List.range 37).map f').toArray = #[f' 0, f' 1, f' 2, f' 3, f' 4, f' 5, f' 6, f' 7, f' 8, f' 9, f' 10, f' 11, f' 12, f' 13, f' 14, f' 15, f' 16, f' 17, f' 18, f' 19, f' 20, f' 21, f' 22, f' 23, f' 24, f' 25, f' 26, f' 27, f' 28, f' 29, f' 30, f' 31, f' 32, f' 33, f' 34, f' 35, f' 36] from rfl, k0, k1, k3, k4, k5, k6, k36]
            go_wp2
            go_ret
            exact ⟨ret_bool (by rw [HA.out.1]; rw [HN.out, hg]; simp), hwr⟩
          · rw [hg] at k36
            rw [F'.lit, show ((List.range 37).map f').toArray = #[f' 0, f' 1, f' 2, f' 3, f' 4, f' 5, f' 6, f' 7, f' 8, f' 9, f' 10, f' 11, f' 12, f' 13, f' 14, f' 15, f' 16, f' 17, f' 18, f' 19, f' 20, f' 21, f' 22, f' 23, f' 24, f' 25, f' 26, f' 27, f' 28, f' 29, f' 30, f' 31, f' 32, f' 33, f' 34, f' 35, f' 36] from rfl, k0, k1, k3, k4, k5, k6, k36]
            go_wp2
            go_roundw
            case rel => exact ⟨q + 1, by omega, by go_num, hwr, by rw [HA.out.1, HA.out.2]; rw [HN.out, hg, hv]; rfl⟩
            case measure => simp [intOf]; omega
    · obtain rfl : q = n := by omega
      have HA : Hid _ := hall
      clear hall
      go_wp2
      go_ret
      refine ⟨ret_bool ?_, hD⟩
      rw [HA.out, List.drop_eq_nil_of_le (by omega)]
      rfl
end Go.Proofs.Ytfgnlfemckdfnaa
namespace Go.Proofs.Ytfgnlfemckdfnaa
open Go.RowKit Go.PlainAid
set_option linter.unusedSimpArgs false
set_option linter.unusedVariables false
abbrev PW (w : World) (k : Nat) : Value := .pointer (some ⟨w.heap.size, k, none⟩)
section
variable {N : Nat} {a : Act} {f : Nat → Value} {o : Oper} {w : World}
theorem Fr.fa {w0 : World} (hF : Fr N a f) {v : Value} (h : f 1 = PW w0 0) (hr : ∀ ev : Operand → Value, ev (.tmp 1) = PW w0 0 → (execOp ev o).run Try.prog w = .ok (.value v) w := by intro ev h; simp only [execOp, h]; simp [go_sem]) (hN : 1 < N := by omega) : (execOp a.eval o).run Try.prog w = .ok (.value v) w := hr _ ((hF.eval 1 hN).trans h)
end
abbrev bT : Value := .bool true
abbrev bF : Value := .bool false
def CC (w : World) (D : Array Value) (wr : World) : Prop := Below w.heap.size w wr ∧ Blk wr w.heap.size D 35
theorem CC.below {w : World} {D : Array Value} {wr w' : World} (h : CC w D wr) (hb : Below wr.heap.size wr w') : CC w D w' := ⟨h.1.trans (hb.mono h.1.size), (hb.block _ h.2.lt).trans h.2⟩
theorem CC.drew {w : World} {D : Array Value} {wr : World} (h : CC w D wr) : CC w D wr.drew := ⟨h.1.drew, h.2⟩
section
variable {ops : Array Oper} {C : World → Prop} {Q : Exit → Act → World → Prop} {a : Act} {w : World} {rest : List Oper} {o : Oper} {f : Nat → Value} {N d : Nat}
theorem scC (hF : Fr N a f) (hd : o.dst = some d) (hN : d < N) (hw : Region.wanted o (yielded ops a.tmps) = true) {k : Nat} {args : Array Value} (hr : (execOp a.eval o).run Try.prog w = .ok (.enter k args) w) (hCw : C w) {v : Value} (hc : ∀ w, C w → Calls Try.prog k args w fun e w' => e = .returned v ∧ C w')
    (h : ∀ a' w', C w' → Fr N a' (upd f d v) → wpList Try.prog ops Q rest a' w') : wpList Try.prog ops Q (o :: rest) a w :=
  wpList_step fun K hK => by
    rw [if_pos hw]
    unfold Oper.wp
    rw [hr]
    refine (hc w hCw).mono ?_
    rintro e w' ⟨rfl, hC'⟩
    exact hK _ _ (by rw [hd]; exact h _ _ hC' (hF.put d v hN))
end
theorem doneV {G : Prop} {N t : Nat} {a : Act} {f : Nat → Value} {v1 v15 vt : Value} (hF : Fr N a f) (k1 : f 1 = v1) (k15 : f 15 = v15) (kt : f t = vt) (h : ∀ f', Fr N a f' → f' 1 = v1 → f' 15 = v15 → f' t = vt → G) : G := h f hF k1 k15 kt
set_option maxRecDepth 100000 in
set_option maxHeartbeats 3200000 in
theorem rvalid_wrong (m : Msg) (ao : Option Addr) (cv : Nat) (w : World) (D : Array Value) (HD : Hid (msgCells m (.slice ao m.views.length cv) = D)) (hl : m.name.length ≤ 140737488355328) (hol : m.oname.length ≤ 140737488355328) (hsrc : VFrom w ao m.views) (hsb : ∀ b o, ao = some ⟨b, o, none⟩ → 0 < m.views.length → b < w.heap.size) (hnm : ∀ x ∈ m.views, x.name.length ≤ 140737488355328) (hin : inB m.kind 1 10 = false) :
    Calls Try.prog 23 #[.agg D] w (fun e w' => e = .returned (.bool (validB m)) ∧ Below w.heap.size w w') := by
  have HV : Hid _ := And.intro hsrc (And.intro hsb hnm)
  clear hsrc hsb hnm
  refine calls_of_wp Try.func23 rfl ?_
  have e : Try.f23.ntmps - (#[Value.agg D] : Array Value).size = 107 := by rw [Try.ntmps23]; rfl
  rw [e]
  have hF0 := frame_init1 (.agg D) 107
  generalize ({ tmps := #[Value.agg D] ++ Array.replicate 107 undef, defers := [] } : Act) = a0 at *
  have hC0 : CC w D (w.alloc (.cells D 35)) := ⟨by go_grown, heap_alloc_new w _⟩
  refine wp_seq (wp_region_list ?_)
  refine sw hF0 rfl (by omega) wn (v := .pointer (some ⟨w.heap.size, 0, none⟩)) (w' := w.alloc (.cells D 35)) (by simp only [execOp, hF0.eval 0 (by omega), if_true, Sem.run_bind, run_box']; rfl) fun a1 F1 => ?_
  refine sz F1 (v := .bool false) (by simp [execOp, Act.eval]) fun a2 F2 => ?_
  refine wpList_nil ?_
  show Code.wp _ _ _ _ _
  refine wp_seq ?_
  refine wp_seq ?_
  generalize w.alloc (.cells D 35) = W0 at *
  refine wp_region_quiet (C := CC w D) (by kernel_rfl) (by kernel_rfl) (by exact hC0.drew) ?_
  refine doneV (t := 2) (v1 := .pointer (some ⟨w.heap.size, 0, none⟩)) (v15 := undef) F2 (by simp [upd]) (by simp [upd]) (upd_eq _ _ _) fun f hF h1 h15 h2 => ?_
  clear hF0 F1 F2 h2
  refine qy hF rfl (by omega) wn (v := (PW w 0)) (fun W hC => by simp only [execOp, hF.ev 1 (v := (PW w 0)) (by simp [upd, h1, h15])]; simp [go_sem]) fun a1 F1 => ?_
  refine qy F1 rfl (by omega) wn (v := .int .i64 m.kind) (fun W hC => by simp only [execOp, F1.ev 3 (v := (PW w 0))]; simp [go_sem, (show W.cell? ⟨w.heap.size, 0, none⟩ = some (.int .i64 m.kind) from (hC.2.cell 0).trans (by rw [← HD.out]; rfl))]) fun a2 F2 => ?_
  refine qc F2 rfl (by omega) wn (k := 46) (args := #[Value.int .i64 m.kind, Value.int .i64 1, Value.int .i64 10]) (v := .bool false) (fun W hC => by simp only [execOp, resolve, invoke, List.map_toArray, List.map_cons, List.map_nil, F2.ev 4 (v := .int .i64 m.kind)]; simp [go_sem, Act.eval]) (fun wr hC => (rwithin_any m.kind 1 10 wr).mono fun e w' ⟨he, hw⟩ => ⟨by rw [he, hin], by rw [hw]; exact hC⟩) fun a3 F3 => ?_
  refine qy F3 rfl (by omega) wn (v := .bool true) (fun W hC => by simp only [execOp, F3.ev 5 (v := .bool false)]; simp [go_sem]) fun a4 F4 => ?_
  refine qy F4 rfl (by omega) wn (v := .bool true) (fun W hC => by simp only [execOp, F4.ev 6 (v := .bool true)]; rfl) fun a5 F5 => ?_
  refine qn F5 rfl (by omega) (F5.wg 7 true) fun a6 F6 => ?_
  refine qn F6 rfl (by omega) (F6.wg 7 true) fun a7 F7 => ?_
  refine qn F7 rfl (by omega) (F7.wg 7 true) fun a8 F8 => ?_
  refine qn F8 rfl (by omega) (F8.wg 7 true) fun a9 F9 => ?_
  refine qn F9 rfl (by omega) (F9.wg 7 true) fun a10 F10 => ?_
  refine qy F10 rfl (by omega) wn (v := .bool true) (fun W hC => pick_run _ rfl (P := true) (F10.ev 7 (v := .bool true)) W rfl) fun a11 F11 => ?_
  refine wpQuiet_nil fun W hC => ?_
  show Code.wp _ _ _ _ _
  refine doneV (t := 13) (v1 := (PW w 0)) (v15 := undef) (vt := Value.bool true) F11 (by simp [upd, h1]) (by simp [upd, h15]) (upd_eq _ _ _) fun f hF h1 h15 hp => ?_
  clear F1 F2 F3 F4 F5 F6 F7 F8 F9 F10 F11
  refine wp_cond_true ((hF.eval 13 (by omega)).trans hp) ?_
  clear hp
  refine wp_seq (wp_region_list ?_)
  refine sz hF (v := .bool false) (by simp [execOp, Act.eval]) fun a1 F1 => ?_
  refine wpList_nil ?_
  show Code.wp _ _ _ _ _
  refine wp_ret ?_
  have h2 : a1.tmps.getD 2 undef = Value.bool false := by have := F1.eval 2 (by omega); simpa [Act.eval, upd] using this
  have hfin : bodyPost Try.prog Try.f23 (fun e w' => e = .returned (.bool (validB m)) ∧ Below w.heap.size w w') .ret a1 W := bodyPost_ret (results_tmp Try.results23 _ _ _) F1.defers ⟨by rw [h2]; exact ret_bool (by simp [validB, hin]), hC.1⟩
  exact hfin
set_option maxRecDepth 100000 in
set_option maxHeartbeats 3200000 in
theorem rvalid_shape (m : Msg) (ao : Option Addr) (cv : Nat) (w : World) (D : Array Value) (HD : Hid (msgCells m (.slice ao m.views.length cv) = D)) (hl : m.name.length ≤ 140737488355328) (hol : m.oname.length ≤ 140737488355328) (hsrc : VFrom w ao m.views) (hsb : ∀ b o, ao = some ⟨b, o, none⟩ → 0 < m.views.length → b < w.heap.size) (hnm : ∀ x ∈ m.views, x.name.length ≤ 140737488355328) (hin : inB m.kind 1 10 = true) (hal : alikeB m (shapeM m) = false) :
    Calls Try.prog 23 #[.agg D] w (fun e w' => e = .returned (.bool (validB m)) ∧ Below w.heap.size w w') := by
  have HV : Hid _ := And.intro hsrc (And.intro hsb hnm)
  clear hsrc hsb hnm
  refine calls_of_wp Try.func23 rfl ?_
  have e : Try.f23.ntmps - (#[Value.agg D] : Array Value).size = 107 := by rw [Try.ntmps23]; rfl
  rw [e]
  have hF0 := frame_init1 (.agg D) 107
  generalize ({ tmps := #[Value.agg D] ++ Array.replicate 107 undef, defers := [] } : Act) = a0 at *
  have hC0 : CC w D (w.alloc (.cells D 35)) := ⟨by go_grown, heap_alloc_new w _⟩
  refine wp_seq (wp_region_list ?_)
  refine sw hF0 rfl (by omega) wn (v := .pointer (some ⟨w.heap.size, 0, none⟩)) (w' := w.alloc (.cells D 35)) (by simp only [execOp, hF0.eval 0 (by omega), if_true, Sem.run_bind, run_box']; rfl) fun a1 F1 => ?_
  refine sz F1 (v := .bool false) (by simp [execOp, Act.eval]) fun a2 F2 => ?_
  refine wpList_nil ?_
  show Code.wp _ _ _ _ _
  refine wp_seq ?_
  refine wp_seq ?_
  generalize w.alloc (.cells D 35) = W0 at *
  refine wp_region_quiet (C := CC w D) (by kernel_rfl) (by kernel_rfl) (by exact hC0.drew) ?_
  refine doneV (t := 2) (v1 := .pointer (some ⟨w.heap.size, 0, none⟩)) (v15 := undef) F2 (by simp [upd]) (by simp [upd]) (upd_eq _ _ _) fun f hF h1 h15 h2 => ?_
  clear hF0 F1 F2 h2
  have hi35 : (Try.prog.info? 35).map (·.size) = some D.size := by rw [← HD.out]; kernel_rfl
  have HS : Hid _ := (show ∀ wr, Calls Try.prog 48 #[.agg D] wr (fun e w' => e = .returned (.agg (msgCells (shapeM m) (.slice (shapeAo m.kind ao) (shapeM m).views.length (shapeCv m.kind cv)))) ∧ Below wr.heap.size wr w') from by rw [← HD.out]; exact fun wr => rshape_any m ao cv wr (by simpa [inB] using hin))
  have HK : Hid _ := (show ∀ wr, Calls Try.prog 47 #[.agg D, .agg (msgCells (shapeM m) (.slice (shapeAo m.kind ao) (shapeM m).views.length (shapeCv m.kind cv)))] wr (fun e w' => e = .returned (.bool (alikeB m (shapeM m))) ∧ Below wr.heap.size wr w') from by rw [← HD.out]; exact fun wr => ralike_any m (shapeM m) ao _ cv _ wr)
  refine qy hF rfl (by omega) wn (v := (PW w 0)) (fun W hC => by simp only [execOp, hF.ev 1 (v := (PW w 0)) (by simp [upd, h1, h15])]; simp [go_sem]) fun a1 F1 => ?_
  refine qy F1 rfl (by omega) wn (v := .int .i64 m.kind) (fun W hC => by simp only [execOp, F1.ev 3 (v := (PW w 0))]; simp [go_sem, (show W.cell? ⟨w.heap.size, 0, none⟩ = some (.int .i64 m.kind) from (hC.2.cell 0).trans (by rw [← HD.out]; rfl))]) fun a2 F2 => ?_
  refine qc F2 rfl (by omega) wn (k := 46) (args := #[Value.int .i64 m.kind, Value.int .i64 1, Value.int .i64 10]) (v := .bool true) (fun W hC => by simp only [execOp, resolve, invoke, List.map_toArray, List.map_cons, List.map_nil, F2.ev 4 (v := .int .i64 m.kind)]; simp [go_sem, Act.eval]) (fun wr hC => (rwithin_any m.kind 1 10 wr).mono fun e w' ⟨he, hw⟩ => ⟨by rw [he, hin], by rw [hw]; exact hC⟩) fun a3 F3 => ?_
  refine qy F3 rfl (by omega) wn (v := .bool false) (fun W hC => by simp only [execOp, F3.ev 5 (v := .bool true)]; simp [go_sem]) fun a4 F4 => ?_
  refine qy F4 rfl (by omega) wn (v := .bool false) (fun W hC => by simp only [execOp, F4.ev 6 (v := .bool false)]; rfl) fun a5 F5 => ?_
  refine qy F5 rfl (by omega) (F5.wg 7 false) (v := .agg D) (fun W hC => by simp only [execOp, F5.ev 1 (v := (PW w 0)) (by simp [upd, h1, h15]), Instr.loadAt, Instr.sureAddr, Sem.run_bind, Sem.run_pure, Result.andThen_ok, run_loadVar_row W w.heap.size 35 35 D (0, 0) _ hC.2 Try.underlying35 rfl hi35]) fun a6 F6 => ?_
  refine qy F6 rfl (by omega) (F6.wg 7 false) (v := .agg D) (fun W hC => by simp only [execOp, F6.ev 1 (v := (PW w 0)) (by simp [upd, h1, h15]), Instr.loadAt, Instr.sureAddr, Sem.run_bind, Sem.run_pure, Result.andThen_ok, run_loadVar_row W w.heap.size 35 35 D (0, 0) _ hC.2 Try.underlying35 rfl hi35]) fun a7 F7 => ?_
  refine qc F7 rfl (by omega) (F7.wg 7 false) (k := 48) (args := #[Value.agg D]) (v := .agg (msgCells (shapeM m) (.slice (shapeAo m.kind ao) (shapeM m).views.length (shapeCv m.kind cv)))) (fun W hC => by simp only [execOp, resolve, invoke, List.map_toArray, List.map_cons, List.map_nil, F7.ev 9 (v := .agg D)]; simp [go_sem, Act.eval]) (fun wr hC => (HS.out wr).mono fun e w' ⟨he, hb⟩ => ⟨he, hC.below hb⟩) fun a8 F8 => ?_
  refine qc F8 rfl (by omega) (F8.wg 7 false) (k := 47) (args := #[Value.agg D, Value.agg (msgCells (shapeM m) (.slice (shapeAo m.kind ao) (shapeM m).views.length (shapeCv m.kind cv)))]) (v := .bool false) (fun W hC => by simp only [execOp, resolve, invoke, List.map_toArray, List.map_cons, List.map_nil, F8.ev 8 (v := .agg D), F8.ev 10 (v := .agg (msgCells (shapeM m) (.slice (shapeAo m.kind ao) (shapeM m).views.length (shapeCv m.kind cv))))]; simp [go_sem, Act.eval]) (fun wr hC => (HK.out wr).mono fun e w' ⟨he, hb⟩ => ⟨by rw [he, hal], hC.below hb⟩) fun a9 F9 => ?_
  refine qy F9 rfl (by omega) (F9.wg 7 false) (v := .bool true) (fun W hC => by simp only [execOp, F9.ev 11 (v := .bool false)]; simp [go_sem]) fun a10 F10 => ?_
  refine qy F10 rfl (by omega) wn (v := .bool true) (fun W hC => pick_run _ rfl (P := false) (F10.ev 7 (v := .bool false)) W (by rw [if_neg (by decide)]; exact F10.ev 12 (v := .bool true))) fun a11 F11 => ?_
  refine wpQuiet_nil fun W hC => ?_
  show Code.wp _ _ _ _ _
  refine doneV (t := 13) (v1 := (PW w 0)) (v15 := undef) (vt := Value.bool true) F11 (by simp [upd, h1]) (by simp [upd, h15]) (upd_eq _ _ _) fun f hF h1 h15 hp => ?_
  clear F1 F2 F3 F4 F5 F6 F7 F8 F9 F10 F11
  refine wp_cond_true ((hF.eval 13 (by omega)).trans hp) ?_
  clear hp
  refine wp_seq (wp_region_list ?_)
  refine sz hF (v := .bool false) (by simp [execOp, Act.eval]) fun a1 F1 => ?_
  refine wpList_nil ?_
  show Code.wp _ _ _ _ _
  refine wp_ret ?_
  have h2 : a1.tmps.getD 2 undef = Value.bool false := by have := F1.eval 2 (by omega); simpa [Act.eval, upd] using this
  have hfin : bodyPost Try.prog Try.f23 (fun e w' => e = .returned (.bool (validB m)) ∧ Below w.heap.size w w') .ret a1 W := bodyPost_ret (results_tmp Try.results23 _ _ _) F1.defers ⟨by rw [h2]; exact ret_bool (by simp [validB, hin, hal]), hC.1⟩
  exact hfin
end Go.Proofs.Ytfgnlfemckdfnaa
