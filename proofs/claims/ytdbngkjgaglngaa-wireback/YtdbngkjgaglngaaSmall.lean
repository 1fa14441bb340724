import Derived.Test.YtdbngkjgaglngaaWEnc2
namespace Go.Proofs.Ytdbngkjgaglngaa
open Go.RowKit Go.PlainAid

set_option maxRecDepth 100000 in
set_option maxHeartbeats 800000 in
theorem alike_any (ao bo : Option Addr) (n m ca cb : Nat) (xs ys : List UInt8) (w : World) (hx : xs.length = n) (hy : ys.length = m) (hfx : From w ao xs) (hfy : From w bo ys) :
    Calls Try.prog 15 #[.slice ao n ca, .slice bo m cb] w (fun e w' => e = .returned (.bool (decide (xs = ys))) ∧ w' = w) := by
  have c1 := conv_run w ao n ca xs hx hfx
  have c2 := conv_run w bo m cb ys hy hfy
  go_enter Try.func15, Try.ntmps15
  go_wp2
  go_ret
  refine ⟨ret_bool ?_, rfl⟩
  by_cases h : xs = ys <;> simp [h]

end Go.Proofs.Ytdbngkjgaglngaa
namespace Go.Proofs.Ytdbngkjgaglngaa
open Go.RowKit Go.PlainAid
def segB (x y : Seg) : Bool := x.src == y.src && x.dst == y.dst && x.seq == y.seq && x.ack == y.ack && decide (x.data = y.data)
theorem segB_iff (x y : Seg) : segB x y = true ↔ x = y := by
  cases x; cases y
  simp [segB, and_assoc]
set_option maxRecDepth 100000 in
set_option maxHeartbeats 1600000 in
theorem sameSeg_any (x y : Seg) (ao bo : Option Addr) (ca cb : Nat) (w : World) (hfx : From w ao x.data) (hfy : From w bo y.data) (hxb : ∀ b o, ao = some ⟨b, o, none⟩ → b < w.heap.size) (hyb : ∀ b o, bo = some ⟨b, o, none⟩ → b < w.heap.size) :
    Calls Try.prog 17 #[.agg (segCells x.src x.dst x.seq x.ack (.slice ao x.data.length ca)), .agg (segCells y.src y.dst y.seq y.ack (.slice bo y.data.length cb))] w (fun e w' => e = .returned (.bool (segB x y)) ∧ Below w.heap.size w w') := by
  have hal := fun (W : World) (h : Below w.heap.size w W) => alike_any ao bo x.data.length y.data.length ca cb x.data y.data W rfl rfl (hfx.keep fun b o e => h.block b (hxb b o e)) (hfy.keep fun b o e => h.block b (hyb b o e))
  unfold segCells at *
  unfold segB
  obtain ⟨x0, x1, x2, x3, x4⟩ := x
  obtain ⟨y0, y1, y2, y3, y4⟩ := y
  simp only at *
  go_enter Try.func17, Try.ntmps17
  go_wp2_with (go_at_call 15; refine (hal _ (by go_grown)).mono ?_; rintro e w3 ⟨rfl, rfl⟩)
  all_goals go_ret
  all_goals refine ⟨ret_bool ?_, by go_grown⟩
  all_goals simp_all
end Go.Proofs.Ytdbngkjgaglngaa
