import Derived.Test.YtneiomimjgfbpaaRefW
import Derived.Test.YtneiomimjgfbpaaJA
import Derived.Test.YtneiomimjgfbpaaJL
import Derived.Deep.LoopGhost
import Derived.Test.YtneiomimjgfbpaaJD
namespace Go.Proofs.Ytneiomimjgfbpaa
open Go.RowKit Go.PlainAid
set_option linter.unusedSimpArgs false
set_option linter.unusedVariables false
theorem RW.belowE {hb : Nat} {w w' : World} (h : RW hb w w') : Below hb w w' := ⟨h.os, h.tape, h.output, by rw [h.size]; exact Nat.le_refl _, fun k hk => h.block k (by omega)⟩
set_option maxRecDepth 100000 in
set_option maxHeartbeats 3200000 in
theorem er8 {W : World} {b1 g n c cv c4 c5 : Nat} {ao ao4 ao5 : Option Addr} {ok : Bool} {cod : Int} {bs : List UInt8} {l : List View} {v3 : Value} {Q : Exit → Act → World → Prop} {a0 : Act} {f : Nat → Value} (hF : Fr 114 a0 f)
    (h1 : f 1 = .pointer (some ⟨b1, 0, none⟩)) (h3 : f 3 = v3) (h4 : f 4 = .slice (some ⟨g, 0, none⟩) (n + 1) c) (h5 : f 5 = .int .i64 (n : Nat)) (h6 : f 6 = .bool ok) (h7 : f 7 = .slice ao4 bs.length c4) (h8 : f 8 = .int .i64 cod) (h9 : f 9 = .slice ao5 bs.length c5) (h10 : f 10 = .int .i64 cod) (hcod : (cod == 0) = ok) (hnc : n + 1 ≤ c)
    (hC : ∀ wr, Below W.heap.size W wr → wr.cell? ⟨b1, 19, none⟩ = some (.slice ao n cv) ∧ wr.cell? ⟨g, n * 7, none⟩ = some (.string ⟨#[109, 97, 114, 107]⟩) ∧ From wr ao4 bs ∧ From wr ao5 bs ∧ VFrom wr (some ⟨g, 0, none⟩) l ∧ VFrom wr ao l)
    (hln : l.length = n) (hn : n ≤ 140000000000000)
    (hrest : ∀ (a' : Act) (f' : Nat → Value) (W' : World), Fr 114 a' f' → f' 1 = .pointer (some ⟨b1, 0, none⟩) → f' 3 = v3 → f' 4 = .slice (some ⟨g, 0, none⟩) (n + 1) c → f' 5 = .int .i64 (n : Nat) → f' 67 = .bool false → Below W.heap.size W W' → Q .normal a' W') :
    (Code.region 8 #[{ dst := some 36, op := Op.move (Operand.tmp 6), type := 4, pos := "law.go:80", after := #[], guard := none }, { dst := some 37, op := Op.move (Operand.tmp 10), type := 3, pos := "law.go:80", after := #[], guard := none }, { dst := some 38, op := Op.binOp BinOp.eql 3 (Operand.tmp 37) (Operand.const (Value.int IntKind.i64 0)) 3, type := 4, pos := "law.go:80", after := #[{ on := 1, ground := Ground.data }], guard := none }, { dst := some 39, op := Op.binOp BinOp.neq 4 (Operand.tmp 36) (Operand.tmp 38) 4, type := 4, pos := "law.go:80", after := #[{ on := 0, ground := Ground.data }, { on := 2, ground := Ground.data }], guard := none }, { dst := some 40, op := Op.move (Operand.tmp 39), type := 4, pos := "law.go:80", after := #[{ on := 3, ground := Ground.data }], guard := none }, { dst := some 41, op := Op.move (Operand.tmp 8), type := 32, pos := "law.go:80", after := #[{ on := 4, ground := Ground.guard }], guard := some (4, false) }, { dst := some 42, op := Op.move (Operand.tmp 10), type := 3, pos := "law.go:80", after := #[{ on := 4, ground := Ground.guard }], guard := some (4, false) }, { dst := some 43, op := Op.binOp BinOp.neq 3 (Operand.tmp 41) (Operand.tmp 42) 3, type := 4, pos := "law.go:80", after := #[{ on := 5, ground := Ground.data }, { on := 6, ground := Ground.data }, { on := 4, ground := Ground.guard }], guard := some (4, false) }, { dst := some 44, op := Op.pick (Operand.tmp 40) (Operand.const (Value.bool true)) (Operand.tmp 43), type := 4, pos := "law.go:80", after := #[{ on := 4, ground := Ground.data }, { on := 7, ground := Ground.data }], guard := none }, { dst := some 45, op := Op.move (Operand.tmp 44), type := 4, pos := "law.go:80", after := #[{ on := 8, ground := Ground.data }, { on := 4, ground := Ground.chain }], guard := none }, { dst := some 46, op := Op.move (Operand.tmp 7), type := 22, pos := "law.go:80", after := #[{ on := 9, ground := Ground.guard }], guard := some (9, false) }, { dst := some 47, op := Op.move (Operand.tmp 9), type := 22, pos := "law.go:80", after := #[{ on := 9, ground := Ground.guard }], guard := some (9, false) }, { dst := some 48, op := Op.call { callee := Callee.value (Operand.func 15), args := #[Operand.tmp 46, Operand.tmp 47], argTypes := #[22, 22] }, type := 4, pos := "law.go:80", after := #[{ on := 10, ground := Ground.data }, { on := 11, ground := Ground.data }, { on := 9, ground := Ground.chain }, { on := 9, ground := Ground.guard }], guard := some (9, false) }, { dst := some 49, op := Op.unOp UnOp.not 4 (Operand.tmp 48), type := 4, pos := "law.go:80", after := #[{ on := 12, ground := Ground.data }, { on := 9, ground := Ground.guard }], guard := some (9, false) }, { dst := some 50, op := Op.pick (Operand.tmp 45) (Operand.const (Value.bool true)) (Operand.tmp 49), type := 4, pos := "law.go:80", after := #[{ on := 9, ground := Ground.data }, { on := 13, ground := Ground.data }], guard := none }, { dst := some 51, op := Op.move (Operand.tmp 50), type := 4, pos := "law.go:80", after := #[{ on := 14, ground := Ground.data }, { on := 12, ground := Ground.chain }], guard := none }, { dst := some 52, op := Op.move (Operand.tmp 4), type := 33, pos := "law.go:80", after := #[{ on := 15, ground := Ground.guard }], guard := some (15, false) }, { dst := some 53, op := Op.move (Operand.tmp 5), type := 3, pos := "law.go:80", after := #[{ on := 15, ground := Ground.guard }], guard := some (15, false) }, { dst := some 54, op := Op.slice 33 (Operand.tmp 52) none (some (Operand.tmp 53)) none, type := 33, pos := "law.go:80", after := #[{ on := 16, ground := Ground.data }, { on := 17, ground := Ground.data }, { on := 15, ground := Ground.guard }], guard := some (15, false) }, { dst := some 55, op := Op.fieldAddr 35 (Operand.tmp 1) 12, type := 0, pos := "law.go:80", after := #[{ on := 15, ground := Ground.guard }], guard := some (15, false) }, { dst := some 56, op := Op.load 33 (Operand.tmp 55), type := 33, pos := "law.go:80", after := #[{ on := 19, ground := Ground.data }, { on := 15, ground := Ground.guard }], guard := some (15, false) }, { dst := some 57, op := Op.call { callee := Callee.value (Operand.func 34), args := #[Operand.tmp 54, Operand.tmp 56], argTypes := #[33, 33] }, type := 4, pos := "law.go:80", after := #[{ on := 18, ground := Ground.data }, { on := 20, ground := Ground.data }, { on := 15, ground := Ground.chain }, { on := 15, ground := Ground.guard }], guard := some (15, false) }, { dst := some 58, op := Op.unOp UnOp.not 4 (Operand.tmp 57), type := 4, pos := "law.go:80", after := #[{ on := 21, ground := Ground.data }, { on := 15, ground := Ground.guard }], guard := some (15, false) }, { dst := some 59, op := Op.pick (Operand.tmp 51) (Operand.const (Value.bool true)) (Operand.tmp 58), type := 4, pos := "law.go:80", after := #[{ on := 15, ground := Ground.data }, { on := 22, ground := Ground.data }], guard := none }, { dst := some 60, op := Op.move (Operand.tmp 59), type := 4, pos := "law.go:80", after := #[{ on := 23, ground := Ground.data }, { on := 21, ground := Ground.chain }], guard := none }, { dst := some 61, op := Op.move (Operand.tmp 4), type := 33, pos := "law.go:80", after := #[{ on := 24, ground := Ground.guard }], guard := some (24, false) }, { dst := some 62, op := Op.move (Operand.tmp 5), type := 3, pos := "law.go:80", after := #[{ on := 24, ground := Ground.guard }], guard := some (24, false) }, { dst := some 63, op := Op.indexAddr 33 (Operand.tmp 61) (Operand.tmp 62), type := 0, pos := "law.go:80", after := #[{ on := 25, ground := Ground.data }, { on := 26, ground := Ground.data }, { on := 24, ground := Ground.guard }], guard := some (24, false) }, { dst := some 64, op := Op.fieldAddr 106 (Operand.tmp 63) 0, type := 0, pos := "law.go:80", after := #[{ on := 27, ground := Ground.data }, { on := 24, ground := Ground.guard }], guard := some (24, false) }, { dst := some 65, op := Op.load 9 (Operand.tmp 64), type := 9, pos := "law.go:80", after := #[{ on := 28, ground := Ground.data }, { on := 24, ground := Ground.guard }], guard := some (24, false) }, { dst := some 66, op := Op.binOp BinOp.neq 9 (Operand.tmp 65) (Operand.const (Value.string { data := #[109, 97, 114, 107] })) 9, type := 4, pos := "law.go:80", after := #[{ on := 29, ground := Ground.data }, { on := 24, ground := Ground.guard }], guard := some (24, false) }, { dst := some 67, op := Op.pick (Operand.tmp 60) (Operand.const (Value.bool true)) (Operand.tmp 66), type := 4, pos := "law.go:80", after := #[{ on := 24, ground := Ground.data }, { on := 30, ground := Ground.data }], guard := none }] true).wp Try.prog Q a0 W := by
  have hnc1 : n ≤ c := by omega
  have hnc2 : n ≤ n + 1 := by omega
  refine wp_region_quiet (C := Below W.heap.size W) (by kernel_rfl) (by kernel_rfl) (by exact (Below.refl _ _).drew) ?_
  refine qy hF rfl (by omega) wn (v := .bool ok) (fun wr hwr => by simp only [execOp, hF.ev 6 (v := .bool ok) (by simp [upd, h1, h3, h4, h5, h6, h7, h8, h9, h10])]; rfl) fun a1 F1 => ?_
  refine qy F1 rfl (by omega) wn (v := .int .i64 cod) (fun wr hwr => by simp only [execOp, F1.ev 10 (v := .int .i64 cod) (by simp [upd, h1, h3, h4, h5, h6, h7, h8, h9, h10])]; rfl) fun a2 F2 => ?_
  refine qy F2 rfl (by omega) wn (v := .bool ok) (fun wr hwr => by simp only [execOp, F2.ev 37 (v := .int .i64 cod) (by simp [upd, h1, h3, h4, h5, h6, h7, h8, h9, h10])]; simp only [Act.eval]; simp [go_sem, hcod]) fun a3 F3 => ?_
  refine qy F3 rfl (by omega) wn (v := .bool false) (fun wr hwr => by simp only [execOp, F3.ev 36 (v := .bool ok) (by simp [upd, h1, h3, h4, h5, h6, h7, h8, h9, h10]), F3.ev 38 (v := .bool ok) (by simp [upd, h1, h3, h4, h5, h6, h7, h8, h9, h10])]; simp [go_sem]) fun a4 F4 => ?_
  refine qy F4 rfl (by omega) wn (v := .bool false) (fun wr hwr => by simp only [execOp, F4.ev 39 (v := .bool false) (by simp [upd, h1, h3, h4, h5, h6, h7, h8, h9, h10])]; rfl) fun a5 F5 => ?_
  refine qy F5 rfl (by omega) (F5.wg 40 false) (v := .int .i64 cod) (fun wr hwr => by simp only [execOp, F5.ev 8 (v := .int .i64 cod) (by simp [upd, h1, h3, h4, h5, h6, h7, h8, h9, h10])]; rfl) fun a6 F6 => ?_
  refine qy F6 rfl (by omega) (F6.wg 40 false) (v := .int .i64 cod) (fun wr hwr => by simp only [execOp, F6.ev 10 (v := .int .i64 cod) (by simp [upd, h1, h3, h4, h5, h6, h7, h8, h9, h10])]; rfl) fun a7 F7 => ?_
  refine qy F7 rfl (by omega) (F7.wg 40 false) (v := .bool false) (fun wr hwr => by simp only [execOp, F7.ev 41 (v := .int .i64 cod) (by simp [upd, h1, h3, h4, h5, h6, h7, h8, h9, h10]), F7.ev 42 (v := .int .i64 cod) (by simp [upd, h1, h3, h4, h5, h6, h7, h8, h9, h10])]; simp [go_sem]) fun a8 F8 => ?_
  refine qy F8 rfl (by omega) wn (v := .bool false) (fun wr hwr => pick_run _ rfl (P := false) (F8.ev 40 (v := .bool false) (by simp [upd, h1, h3, h4, h5, h6, h7, h8, h9, h10])) wr (by rw [if_neg (by decide)]; exact F8.ev 43 (v := .bool false) (by simp [upd, h1, h3, h4, h5, h6, h7, h8, h9, h10]))) fun a9 F9 => ?_
  refine qy F9 rfl (by omega) wn (v := .bool false) (fun wr hwr => by simp only [execOp, F9.ev 44 (v := .bool false) (by simp [upd, h1, h3, h4, h5, h6, h7, h8, h9, h10])]; rfl) fun a10 F10 => ?_
  refine qy F10 rfl (by omega) (F10.wg 45 false) (v := .slice ao4 bs.length c4) (fun wr hwr => by simp only [execOp, F10.ev 7 (v := .slice ao4 bs.length c4) (by simp [upd, h1, h3, h4, h5, h6, h7, h8, h9, h10])]; rfl) fun a11 F11 => ?_
  refine qy F11 rfl (by omega) (F11.wg 45 false) (v := .slice ao5 bs.length c5) (fun wr hwr => by simp only [execOp, F11.ev 9 (v := .slice ao5 bs.length c5) (by simp [upd, h1, h3, h4, h5, h6, h7, h8, h9, h10])]; rfl) fun a12 F12 => ?_
  refine qc F12 rfl (by omega) (F12.wg 45 false) (k := 15) (args := #[.slice ao4 bs.length c4, .slice ao5 bs.length c5]) (v := .bool true) (fun wr hwr => by simp only [execOp, resolve, invoke, List.map_toArray, List.map_cons, List.map_nil, F12.ev 46 (v := .slice ao4 bs.length c4) (by simp [upd, h1, h3, h4, h5, h6, h7, h8, h9, h10]), F12.ev 47 (v := .slice ao5 bs.length c5) (by simp [upd, h1, h3, h4, h5, h6, h7, h8, h9, h10])]; simp [go_sem, Act.eval]) (fun wr hwr => (alike_any ao4 ao5 bs.length bs.length c4 c5 bs bs wr rfl rfl (hC wr hwr).2.2.1 (hC wr hwr).2.2.2.1).mono fun e w' ⟨he, hw⟩ => ⟨by rw [he]; simp, by rw [hw]; exact hwr⟩) fun a13 F13 => ?_
  refine qy F13 rfl (by omega) (F13.wg 45 false) (v := .bool false) (fun wr hwr => by simp only [execOp, F13.ev 48 (v := .bool true) (by simp [upd, h1, h3, h4, h5, h6, h7, h8, h9, h10])]; simp [go_sem]) fun a14 F14 => ?_
  refine qy F14 rfl (by omega) wn (v := .bool false) (fun wr hwr => pick_run _ rfl (P := false) (F14.ev 45 (v := .bool false) (by simp [upd, h1, h3, h4, h5, h6, h7, h8, h9, h10])) wr (by rw [if_neg (by decide)]; exact F14.ev 49 (v := .bool false) (by simp [upd, h1, h3, h4, h5, h6, h7, h8, h9, h10]))) fun a15 F15 => ?_
  refine qy F15 rfl (by omega) wn (v := .bool false) (fun wr hwr => by simp only [execOp, F15.ev 50 (v := .bool false) (by simp [upd, h1, h3, h4, h5, h6, h7, h8, h9, h10])]; rfl) fun a16 F16 => ?_
  refine qy F16 rfl (by omega) (F16.wg 51 false) (v := .slice (some ⟨g, 0, none⟩) (n + 1) c) (fun wr hwr => by simp only [execOp, F16.ev 4 (v := .slice (some ⟨g, 0, none⟩) (n + 1) c) (by simp [upd, h1, h3, h4, h5, h6, h7, h8, h9, h10])]; rfl) fun a17 F17 => ?_
  refine qy F17 rfl (by omega) (F17.wg 51 false) (v := .int .i64 (n : Nat)) (fun wr hwr => by simp only [execOp, F17.ev 5 (v := .int .i64 (n : Nat)) (by simp [upd, h1, h3, h4, h5, h6, h7, h8, h9, h10])]; rfl) fun a18 F18 => ?_
  refine qy F18 rfl (by omega) (F18.wg 51 false) (v := .slice (some ⟨g, 0, none⟩) n c) (fun wr hwr => by simp only [execOp, F18.ev 52 (v := .slice (some ⟨g, 0, none⟩) (n + 1) c) (by simp [upd, h1, h3, h4, h5, h6, h7, h8, h9, h10]), F18.ev 53 (v := .int .i64 (n : Nat)) (by simp [upd, h1, h3, h4, h5, h6, h7, h8, h9, h10])]; simp only [Option.map_some, Option.map_none, F18.ev 53 (v := .int .i64 (n : Nat)) (by simp [upd, h1, h3, h4, h5, h6, h7, h8, h9, h10])]; simp [go_sem, hnc1, hnc2]) fun a19 F19 => ?_
  refine qy F19 rfl (by omega) (F19.wg 51 false) (v := .pointer (some ⟨b1, 19, none⟩)) (fun wr hwr => by simp only [execOp, F19.ev 1 (v := .pointer (some ⟨b1, 0, none⟩)) (by simp [upd, h1, h3, h4, h5, h6, h7, h8, h9, h10])]; simp [go_sem]) fun a20 F20 => ?_
  refine qy F20 rfl (by omega) (F20.wg 51 false) (v := .slice ao n cv) (fun wr hwr => by simp only [execOp, F20.ev 55 (v := .pointer (some ⟨b1, 19, none⟩)) (by simp [upd, h1, h3, h4, h5, h6, h7, h8, h9, h10])]; simp [go_sem, (hC wr hwr).1]) fun a21 F21 => ?_
  refine qc F21 rfl (by omega) (F21.wg 51 false) (k := 34) (args := #[.slice (some ⟨g, 0, none⟩) n c, .slice ao n cv]) (v := .bool true) (fun wr hwr => by simp only [execOp, resolve, invoke, List.map_toArray, List.map_cons, List.map_nil, F21.ev 54 (v := .slice (some ⟨g, 0, none⟩) n c) (by simp [upd, h1, h3, h4, h5, h6, h7, h8, h9, h10]), F21.ev 56 (v := .slice ao n cv) (by simp [upd, h1, h3, h4, h5, h6, h7, h8, h9, h10])]; simp [go_sem, Act.eval]) (fun wr hwr => (sameViews_any (some ⟨g, 0, none⟩) ao n n c cv l l wr hln hln (hC wr hwr).2.2.2.2.1 (hC wr hwr).2.2.2.2.2 hn).mono fun e w' ⟨he, hw⟩ => ⟨by rw [he, (viewsB_iff l l).2 rfl], hwr.trans ((RW.drewn (hb := W.heap.size) hw).belowE)⟩) fun a22 F22 => ?_
  refine qy F22 rfl (by omega) (F22.wg 51 false) (v := .bool false) (fun wr hwr => by simp only [execOp, F22.ev 57 (v := .bool true) (by simp [upd, h1, h3, h4, h5, h6, h7, h8, h9, h10])]; simp [go_sem]) fun a23 F23 => ?_
  refine qy F23 rfl (by omega) wn (v := .bool false) (fun wr hwr => pick_run _ rfl (P := false) (F23.ev 51 (v := .bool false) (by simp [upd, h1, h3, h4, h5, h6, h7, h8, h9, h10])) wr (by rw [if_neg (by decide)]; exact F23.ev 58 (v := .bool false) (by simp [upd, h1, h3, h4, h5, h6, h7, h8, h9, h10]))) fun a24 F24 => ?_
  refine qy F24 rfl (by omega) wn (v := .bool false) (fun wr hwr => by simp only [execOp, F24.ev 59 (v := .bool false) (by simp [upd, h1, h3, h4, h5, h6, h7, h8, h9, h10])]; rfl) fun a25 F25 => ?_
  refine qy F25 rfl (by omega) (F25.wg 60 false) (v := .slice (some ⟨g, 0, none⟩) (n + 1) c) (fun wr hwr => by simp only [execOp, F25.ev 4 (v := .slice (some ⟨g, 0, none⟩) (n + 1) c) (by simp [upd, h1, h3, h4, h5, h6, h7, h8, h9, h10])]; rfl) fun a26 F26 => ?_
  refine qy F26 rfl (by omega) (F26.wg 60 false) (v := .int .i64 (n : Nat)) (fun wr hwr => by simp only [execOp, F26.ev 5 (v := .int .i64 (n : Nat)) (by simp [upd, h1, h3, h4, h5, h6, h7, h8, h9, h10])]; rfl) fun a27 F27 => ?_
  refine qy F27 rfl (by omega) (F27.wg 60 false) (v := .pointer (some ⟨g, n * 7, none⟩)) (fun wr hwr => by simp only [execOp, F27.ev 61 (v := .slice (some ⟨g, 0, none⟩) (n + 1) c) (by simp [upd, h1, h3, h4, h5, h6, h7, h8, h9, h10]), F27.ev 62 (v := .int .i64 (n : Nat)) (by simp [upd, h1, h3, h4, h5, h6, h7, h8, h9, h10])]; simp [go_sem]; intro h; omega) fun a28 F28 => ?_
  refine qy F28 rfl (by omega) (F28.wg 60 false) (v := .pointer (some ⟨g, n * 7, none⟩)) (fun wr hwr => by simp only [execOp, F28.ev 63 (v := .pointer (some ⟨g, n * 7, none⟩)) (by simp [upd, h1, h3, h4, h5, h6, h7, h8, h9, h10])]; simp [go_sem]) fun a29 F29 => ?_
  refine qy F29 rfl (by omega) (F29.wg 60 false) (v := .string ⟨#[109, 97, 114, 107]⟩) (fun wr hwr => by simp only [execOp, F29.ev 64 (v := .pointer (some ⟨g, n * 7, none⟩)) (by simp [upd, h1, h3, h4, h5, h6, h7, h8, h9, h10])]; simp [go_sem, (hC wr hwr).2.1]) fun a30 F30 => ?_
  refine qy F30 rfl (by omega) (F30.wg 60 false) (v := .bool false) (fun wr hwr => by simp only [execOp, F30.ev 65 (v := .string ⟨#[109, 97, 114, 107]⟩) (by simp [upd, h1, h3, h4, h5, h6, h7, h8, h9, h10])]; simp only [Act.eval]; simp [go_sem]) fun a31 F31 => ?_
  refine qy F31 rfl (by omega) wn (v := .bool false) (fun wr hwr => pick_run _ rfl (P := false) (F31.ev 60 (v := .bool false) (by simp [upd, h1, h3, h4, h5, h6, h7, h8, h9, h10])) wr (by rw [if_neg (by decide)]; exact F31.ev 66 (v := .bool false) (by simp [upd, h1, h3, h4, h5, h6, h7, h8, h9, h10]))) fun a32 F32 => ?_
  refine wpQuiet_nil fun wr hwr => ?_
  exact hrest _ _ _ F32 (by simp [upd, h1, h3, h4, h5, h6, h7, h8, h9, h10]) (by simp [upd, h1, h3, h4, h5, h6, h7, h8, h9, h10]) (by simp [upd, h1, h3, h4, h5, h6, h7, h8, h9, h10]) (by simp [upd, h1, h3, h4, h5, h6, h7, h8, h9, h10]) (by simp [upd]) hwr
end Go.Proofs.Ytneiomimjgfbpaa
namespace Go.Proofs.Ytneiomimjgfbpaa
open Go.RowKit Go.PlainAid
set_option linter.unusedSimpArgs false
set_option linter.unusedVariables false
theorem rowV_atE (l : List View) (i j : Nat) (x : View) (c : Value) (hx : l[i]? = some x) (hc : (viewCells x)[j]? = some c) : (rowV l)[i * 7 + j]? = some c := by
  have hl : ∀ v : View, (viewCells v).length = 7 := fun v => rfl
  induction l generalizing i with
  | nil => cases hx
  | cons a l ih =>
    have e : rowV (a :: l) = viewCells a ++ rowV l := by simp [rowV]
    rw [e]
    cases i with
    | zero =>
      simp only [List.getElem?_cons_zero, Option.some.injEq] at hx
      subst hx
      rw [Nat.zero_mul, Nat.zero_add, List.getElem?_append_left (List.getElem?_eq_some_iff.1 hc).1]
      exact hc
    | succ i =>
      rw [List.getElem?_append_right (by rw [hl]; omega), hl, show (i + 1) * 7 + j - 7 = i * 7 + j by omega]
      exact ih i (by simpa using hx)
theorem rowV_set (l : List View) (k : Nat) (x : View) (z : Int) (hx : l[k]? = some x) : (rowV l).set (k * 7 + 6) (.int .i64 z) = rowV (l.set k { x with held := z }) := by
  have e : ∀ (y : View) (t : List View), rowV (y :: t) = viewCells y ++ rowV t := fun y t => by simp [rowV]
  have hl : ∀ v : View, (viewCells v).length = 7 := fun v => rfl
  induction l generalizing k with
  | nil => cases hx
  | cons a l ih =>
    cases k with
    | zero =>
      simp only [List.getElem?_cons_zero, Option.some.injEq] at hx
      subst hx
      rw [List.set_cons_zero, e, e, List.set_append_left _ _ (by rw [hl]; omega)]
      rfl
    | succ k =>
      rw [List.set_cons_succ, e, e, List.set_append_right _ _ (by rw [hl]; omega), hl, show (k + 1) * 7 + 6 - 7 = k * 7 + 6 by omega, ih k (by simpa using hx)]
theorem ownV_form {w : World} {L k : Nat} {v : Value} {xs : List Value} (h : w.ownsRow L 106 7 v (k + 1) xs) : ∃ g c, v = .slice (some ⟨g, 0, none⟩) (k + 1) c ∧ L ≤ g ∧ g < w.heap.size ∧ k + 1 ≤ c := by
  rcases h.2 with ⟨_, h2⟩ | ⟨g, c, cur, h1, h2, h3, h4, _⟩
  · cases h2
  · exact ⟨g, c, h1, h2, (Array.getElem?_eq_some_iff.1 h3).1, h4⟩
theorem ownV_cell {w : World} {L g k c j : Nat} {xs : List Value} {u : Value} (h : w.ownsRow L 106 7 (.slice (some ⟨g, 0, none⟩) k c) k xs) (hj : xs[j]? = some u) : w.cell? ⟨g, j, none⟩ = some u := by
  rcases h.2 with ⟨h1, _⟩ | ⟨g2, c2, cur, h1, h2, h3, h4, h5, h6, h7⟩
  · cases h1
  · cases h1
    have hB : Blk w g cur 106 := h3
    rw [← h7, List.getElem?_take] at hj
    split at hj
    · rw [hB.cell, ← hj, Array.getElem?_toList]
    · cases hj
theorem ownV_from {w : World} {L g k c : Nat} {l t : List View} (h : w.ownsRow L 106 7 (.slice (some ⟨g, 0, none⟩) k c) k (rowV (l ++ t))) : VFrom w (some ⟨g, 0, none⟩) l := by
  intro i x hx
  refine ⟨g, 0, rfl, fun j u hu => ?_⟩
  rw [Nat.zero_add]
  exact ownV_cell h (rowV_atE _ i j x u (by rw [List.getElem?_append_left (List.getElem?_eq_some_iff.1 hx).1]; exact hx) hu)
theorem ownV_set {w : World} {L g k c : Nat} {xs : List Value} (h : w.ownsRow L 106 7 (.slice (some ⟨g, 0, none⟩) k c) k xs) (j : Nat) (u : Value) :
    (w.setCell ⟨g, j, none⟩ u).ownsRow L 106 7 (.slice (some ⟨g, 0, none⟩) k c) k (xs.set j u) ∧ w.frozen? ⟨g, j, none⟩ = false := by
  rcases h.2 with ⟨h1, _⟩ | ⟨g2, c2, cur, h1, h2, h3, h4, h5, h6, h7⟩
  · cases h1
  · cases h1
    have hB : Blk w g cur 106 := h3
    refine ⟨⟨by simpa using h.1, Or.inr ⟨g, c, cur.setIfInBounds j u, rfl, h2, hB.set j _, h4, h5, by simpa using h6, ?_⟩⟩, hB.frozen j⟩
    rw [Array.toList_setIfInBounds, List.take_set, h7]
theorem ownV_open {w : World} {L n : Nat} {v : Value} {l : List View} (h : w.ownsRow L 106 7 v n (rowV l)) (hl : l.length = n) : ∃ ao c, v = .slice ao n c ∧ VFrom w ao l ∧ ∀ b o, ao = some ⟨b, o, none⟩ → L ≤ b ∧ b < w.heap.size := by
  rcases h.2 with ⟨h1, h2⟩ | ⟨g, c, cur, h1, h2, h3, h4, h5, h6, h7⟩
  · subst h1
    refine ⟨none, 0, by rw [h2], fun i x hx => ?_, fun b o e => by cases e⟩
    have := (List.getElem?_eq_some_iff.1 hx).1
    omega
  · subst h1
    refine ⟨_, c, rfl, ?_, fun b o e => by cases e; exact ⟨h2, (Array.getElem?_eq_some_iff.1 h3).1⟩⟩
    exact ownV_from (t := []) (by rw [List.append_nil]; exact h)
def flipV (x : View) : View := { x with held := bits BinOp.xor IntKind.i64 x.held 1 }
def flipM (m : Msg) : Msg := { m with views := m.views.map flipV }
theorem flip_step (l : List View) (k : Nat) (x : View) (hx : l[k]? = some x) : ((l.take k).map flipV ++ l.drop k)[k]? = some x ∧ ((l.take k).map flipV ++ l.drop k).set k (flipV x) = (l.take (k + 1)).map flipV ++ l.drop (k + 1) := by
  have hk := (List.getElem?_eq_some_iff.1 hx).1
  have hlen : ((l.take k).map flipV).length = k := by rw [List.length_map, List.length_take]; omega
  have hd : l.drop k = x :: l.drop (k + 1) := by
    rw [List.drop_eq_getElem_cons hk]
    rw [List.getElem?_eq_getElem hk] at hx
    rw [Option.some.inj hx]
  constructor
  · rw [List.getElem?_append_right (by omega), hlen, Nat.sub_self, hd]
    rfl
  · rw [List.set_append_right _ _ (by omega), hlen, Nat.sub_self, hd, List.set_cons_zero, List.take_add_one, hx]
    simp
theorem fit_flip {m : Msg} (h : Fit m) : Fit (flipM m) := by
  refine ⟨h.name, h.oname, h.a1, h.a2, h.b1, h.b2, by simpa [flipM] using h.views, fun x hx => ?_⟩
  simp only [flipM, List.mem_map] at hx
  obtain ⟨y, hy, rfl⟩ := hx
  exact h.names y hy
end Go.Proofs.Ytneiomimjgfbpaa
namespace Go.Proofs.Ytneiomimjgfbpaa
open Go.RowKit Go.PlainAid
set_option linter.unusedSimpArgs false
set_option linter.unusedVariables false
theorem encVx {r : Option (List UInt8)} {w : World} {e : Ending} {w' : World} {bs : List UInt8} {cod : Int} (h : EncPost r w e w') (hbs : r.getD [] = bs) (hcod : (if r.isSome then 0 else 21) = cod) : ∃ ao' c', e = .returned (.tuple #[.slice ao' bs.length c', .int .i64 cod]) ∧ From w' ao' bs ∧ (∀ b o, ao' = some ⟨b, o, none⟩ → w.heap.size ≤ b ∧ b < w'.heap.size) ∧ Below w.heap.size w w' := by
  obtain ⟨ao', c', h1, h2, h3, h4⟩ := encV h
  rw [hbs] at h1 h2
  rw [hcod] at h1
  exact ⟨ao', c', h1, h2, h3, h4⟩
theorem cod_ok {r : Option (List UInt8)} {cod : Int} (hcod : (if r.isSome then 0 else 21) = cod) : (cod == 0) = r.isSome := by
  subst hcod
  cases r.isSome <;> rfl
theorem set19 (m : Msg) (x y : Value) : (msgCells m x).setIfInBounds 19 y = msgCells m y := rfl
set_option maxRecDepth 100000 in
set_option maxHeartbeats 6400000 in
theorem encodes_of (hren : ∀ (m : Msg) (ao : Option Addr) (cv : Nat) (w : World), Fit m → VFrom w ao m.views → (∀ b o, ao = some ⟨b, o, none⟩ → b < w.heap.size) → Calls Try.prog 62 #[.agg (msgCells m (.slice ao m.views.length cv))] w (EncPost (message.wr m) w))
    (m : Msg) (ao : Option Addr) (cv : Nat) (w : World) (hf : Fit m) (hsrc : VFrom w ao m.views) (hsb : ∀ b o, ao = some ⟨b, o, none⟩ → b < w.heap.size) (hnil : ao = none → m.views = [] ∧ cv = 0) (hao : ∀ a, ao = some a → a = ⟨a.block, a.off, none⟩) (hlen : m.views.length < 2199023255552) :
    Calls Try.prog 28 #[.agg (msgCells m (.slice ao m.views.length cv))] w (fun e w' => e = .returned (.bool true) ∧ Below w.heap.size w w') := by
  have hve := fun (a : Option Addr) (c : Nat) (W : World) h1 h2 => valid_any m a c W hf h1 h2
  have hen := fun (a : Option Addr) (c : Nat) (W : World) h1 h2 => encode_any m a c W hf h1 h2
  have hre := fun (a : Option Addr) (c : Nat) (W : World) h1 h2 => hren m a c W hf h1 h2
  have hve2 := fun (a : Option Addr) (c : Nat) (W : World) h1 h2 => valid_any (flipM m) a c W (fit_flip hf) h1 h2
  have hen2 := fun (a : Option Addr) (c : Nat) (W : World) h1 h2 => encode_any (flipM m) a c W (fit_flip hf) h1 h2
  have hre2 := fun (a : Option Addr) (c : Nat) (W : World) h1 h2 => hren (flipM m) a c W (fit_flip hf) h1 h2
  rw [← enc_is] at hen hen2
  have hmc : ∀ x, msgCells (flipM m) x = msgCells m x := fun _ => rfl
  have hfl : (flipM m).views.length = m.views.length := by simp [flipM]
  have hfv : (flipM m).views = m.views.map flipV := rfl
  simp only [hmc, hfl, hfv, List.length_map] at hve2 hen2 hre2
  generalize message.wr (flipM m) = r2 at *
  generalize hr1 : message.wr m = r1 at *
  obtain ⟨bs1, hbs1⟩ : ∃ b, r1.getD [] = b := ⟨_, rfl⟩
  obtain ⟨cod1, hcod1⟩ : ∃ c : Int, (if r1.isSome then 0 else 21) = c := ⟨_, rfl⟩
  obtain ⟨bs2, hbs2⟩ : ∃ b, r2.getD [] = b := ⟨_, rfl⟩
  obtain ⟨cod2, hcod2⟩ : ∃ c : Int, (if r2.isSome then 0 else 21) = c := ⟨_, rfl⟩
  have hok1 := cod_ok hcod1
  have hok2 := cod_ok hcod2
  generalize hK1 : r1.isSome = ok1 at hok1 hve
  generalize hK2 : r2.isSome = ok2 at hok2 hve2
  have hset : ∀ x y, (msgCells m x).setIfInBounds 19 y = msgCells m y := set19 m
  have hsz : ∀ x, (msgCells m x).size = 20 := fun _ => rfl
  have hall : ∀ a k c, (msgCells m (.slice a k c)).all (·.oneCell') = true := by intro a k c; simp [msgCells, Value.oneCell', Str]
  have hD19 : ∀ x, (msgCells m x)[19]? = some x := fun _ => rfl
  generalize msgCells m = MC at *
  generalize hl : m.views = l at *
  clear hr1 hmc hfl hfv hf hren
  generalize hn0 : l.length = n at *
  have hn := hn0.symm
  clear hn0
  have hi : ∀ x, (Try.prog.info? 35).map (·.size) = some (MC x).size := fun x => by rw [hsz]; kernel_rfl
  obtain ⟨D, hD⟩ : ∃ D, D = MC (.slice ao n cv) := ⟨_, rfl⟩
  rw [← hD]
  have hi1 : (Try.prog.info? 35).map (·.size) = some D.size := by rw [hD]; exact hi _
  have hsz1 : D.size = 20 := by rw [hD]; exact hsz _
  have hall1 : D.all (·.oneCell') = true := by rw [hD]; exact hall _ _ _
  have hD1 : D[19]? = some (.slice ao n cv) := by rw [hD]; exact hD19 _
  have hA0 : Blk (w.alloc (.cells D 35)) w.heap.size D 35 := heap_alloc_new w _
  have hB0 : Blk ((w.alloc (.cells D 35)).alloc (.cells zeroC 35)) (w.heap.size + 1) zeroC 35 := by
    have := heap_alloc_new (w.alloc (.cells D 35)) (.cells zeroC 35)
    rw [World.size_alloc] at this
    exact this
  have hA1 : Blk (((w.alloc (.cells D 35)).alloc (.cells zeroC 35)).setRow (w.heap.size + 1) D) w.heap.size D 35 := (setRow_other _ _ _ _ (by omega)).trans ((Below.heap_alloc _ _ _ (by simp)).trans hA0)
  have hX1 : Blk (((w.alloc (.cells D 35)).alloc (.cells zeroC 35)).setRow (w.heap.size + 1) D) (w.heap.size + 1) D 35 := setRow_blk hB0
  have hL1 : Below w.heap.size w (((w.alloc (.cells D 35)).alloc (.cells zeroC 35)).setRow (w.heap.size + 1) D) := (show Below w.heap.size w ((w.alloc (.cells D 35)).alloc (.cells zeroC 35)) from by go_grown).trans ⟨rfl, rfl, rfl, by simp [World.setRow], fun k hk => setRow_other _ _ _ _ (by omega)⟩
  have hs1 : (((w.alloc (.cells D 35)).alloc (.cells zeroC 35)).setRow (w.heap.size + 1) D).heap.size = w.heap.size + 2 := by simp [World.setRow]
  have c19 : (((w.alloc (.cells D 35)).alloc (.cells zeroC 35)).setRow (w.heap.size + 1) D).cell? ⟨w.heap.size, 19, none⟩ = some (.slice ao n cv) := (hA1.cell 19).trans hD1
  have hsrc1 : VFrom (((w.alloc (.cells D 35)).alloc (.cells zeroC 35)).setRow (w.heap.size + 1) D) ao l := hsrc.keep fun b o e => hL1.block b (hsb b o e)
  have hvw := views_any ao cv l _ hsrc1 hnil hao (by rw [← hn]; exact hlen)
  rw [← hn] at hvw
  have HV : Hid _ := And.intro hve (And.intro hen (And.intro hre (And.intro hve2 (And.intro hen2 hre2))))
  have HM : Hid _ := And.intro hset (And.intro hsz (And.intro hall (And.intro hD19 (And.intro hi hD))))
  have HR : Hid _ := And.intro hbs1 (And.intro hcod1 (And.intro hbs2 hcod2))
  have HX : Hid _ := And.intro hA1 (And.intro hX1 (And.intro hL1 (And.intro hs1 hsrc1)))
  have HN : Hid _ := hn
  have HK : Hid _ := And.intro hK1 hK2
  have HSB : Hid _ := hsb
  clear hve hen hre hve2 hen2 hre2 hset hsz hall hD19 hi hD hbs1 hcod1 hbs2 hcod2 hA1 hX1 hL1 hs1 hsrc1 hsrc hnil hao hn hK1 hK2 hl hsb
  go_enter Try.func28, Try.ntmps28
  go_wp2_with (first | (refine wpList_load_row rfl 35 (.tmp 1) rfl w.heap.size rfl 35 D (0, 0) _ hA0 Try.underlying35 rfl hi1 ?_) | (rw [zero_is]; refine wpList_store_row rfl 35 (.tmp 3) (.tmp 13) rfl (w.heap.size + 1) D rfl rfl 35 zeroC hB0 hi1 (by rw [hsz1]; rfl) hall1 ?_) | (refine wpList_store_row rfl 35 (.tmp 3) (.tmp 13) rfl (w.heap.size + 1) D rfl rfl 35 zeroC hB0 hi1 (by rw [hsz1]; rfl) hall1 ?_) | fail)
  obtain ⟨hA1, hX1, hL1, hs1, hsrc1⟩ := HX.out
  clear HX hA0 hB0
  generalize ((w.alloc (.cells D 35)).alloc (.cells zeroC 35)).setRow (w.heap.size + 1) D = W1 at *
  refine hvw.mono ?_
  rintro e2 w2 ⟨v2, rfl, hO2, hb2⟩
  obtain ⟨g, c, rfl, hg1, hg2, hnc⟩ := ownV_form hO2
  have hz2 := hb2.size
  have hA2 : Blk w2 w.heap.size D 35 := (hb2.block _ (by omega)).trans hA1
  have hX2 : Blk w2 (w.heap.size + 1) D 35 := (hb2.block _ (by omega)).trans hX1
  have ca2 : w2.cell? ⟨w.heap.size, 19, none⟩ = some (.slice ao n cv) := (hA2.cell 19).trans hD1
  have cb2 : w2.cell? ⟨w.heap.size + 1, 19, none⟩ = some (.slice ao n cv) := (hX2.cell 19).trans hD1
  have fb2 : w2.frozen? ⟨w.heap.size + 1, 19, none⟩ = false := hX2.frozen 19
  have hst : Below (w.heap.size + 1) w2 (w2.setCell ⟨w.heap.size + 1, 19, none⟩ (.slice (some ⟨g, 0, none⟩) n c)) := ⟨rfl, rfl, rfl, by simp [World.setCell], fun k hk => Below.heap_setCell _ _ _ _ (by show k ≠ w.heap.size + 1; omega)⟩
  have hk3 : ∀ k, k ≠ w.heap.size + 1 → (w2.setCell ⟨w.heap.size + 1, 19, none⟩ (.slice (some ⟨g, 0, none⟩) n c)).heap[k]? = w2.heap[k]? := fun k hk => Below.heap_setCell _ _ _ _ hk
  have hA3 : Blk (w2.setCell ⟨w.heap.size + 1, 19, none⟩ (.slice (some ⟨g, 0, none⟩) n c)) w.heap.size D 35 := (hk3 _ (by omega)).trans hA2
  obtain ⟨D', hD'⟩ : ∃ D', D' = MC (.slice (some ⟨g, 0, none⟩) n c) := ⟨_, rfl⟩
  have hX3 : Blk (w2.setCell ⟨w.heap.size + 1, 19, none⟩ (.slice (some ⟨g, 0, none⟩) n c)) (w.heap.size + 1) D' 35 := by
    have := Blk.set hX2 19 (.slice (some ⟨g, 0, none⟩) n c)
    rw [HM.out.2.2.2.2.2, HM.out.1, ← hD'] at this
    exact this
  have hO3 : (w2.setCell ⟨w.heap.size + 1, 19, none⟩ (.slice (some ⟨g, 0, none⟩) n c)).ownsRow (w.heap.size + 2) 106 7 (.slice (some ⟨g, 0, none⟩) (n + 1) c) (n + 1) (rowV (l ++ [markV])) := by
    rw [← hs1]
    exact own_stableG hO2 fun k h1 _ => hk3 k (by omega)
  have hL3 : Below w.heap.size w (w2.setCell ⟨w.heap.size + 1, 19, none⟩ (.slice (some ⟨g, 0, none⟩) n c)) := (hL1.trans (hb2.mono (by omega))).trans (hst.mono (by omega))
  have hs3 : (w2.setCell ⟨w.heap.size + 1, 19, none⟩ (.slice (some ⟨g, 0, none⟩) n c)).heap.size = w2.heap.size := by simp [World.setCell]
  have hv3 := ownV_from hO3
  have hsrc3 : VFrom (w2.setCell ⟨w.heap.size + 1, 19, none⟩ (.slice (some ⟨g, 0, none⟩) n c)) ao l := hsrc1.keep fun b o e => (hk3 b (by have := HSB.out b o e; omega)).trans (hb2.block b (by have := HSB.out b o e; omega))
  have hi2 : (Try.prog.info? 35).map (·.size) = some D'.size := by rw [hD']; exact HM.out.2.2.2.2.1 _
  have hve := HV.out.1 (some ⟨g, 0, none⟩) c _ hv3 (fun b o e => by cases e; rw [hs3]; exact hg2)
  rw [← hD'] at hve
  have HX : Hid _ := And.intro hA3 (And.intro hX3 (And.intro hO3 (And.intro hL3 (And.intro hs3 (And.intro hv3 hsrc3)))))
  have HD : Hid _ := hD'
  have hnc1 : n ≤ c := by omega
  have hX3' := hX3
  clear hA3 hX3 hO3 hL3 hs3 hv3 hsrc3 hst hk3 hA2 hX2 hO2 hb2 hA1 hX1 hL1 hsrc1 hD'
  go_wp2_with (first | (refine wpList_load_row rfl 35 (.tmp 3) rfl (w.heap.size + 1) rfl 35 D' (0, 0) _ hX3' Try.underlying35 rfl hi2 ?_) | fail)
  obtain ⟨hA3, hX3, hO3, hL3, hs3, hv3, hsrc3⟩ := HX.out
  clear HX hX3' ca2 cb2 fb2 c19
  generalize w2.setCell ⟨w.heap.size + 1, 19, none⟩ (.slice (some ⟨g, 0, none⟩) n c) = W3 at *
  refine hve.mono ?_
  rintro e4 w4 ⟨rfl, hb4⟩
  have hz4 := hb4.size
  have hA4 : Blk w4 w.heap.size D 35 := (hb4.block _ (by omega)).trans hA3
  have hX4 : Blk w4 (w.heap.size + 1) D' 35 := (hb4.block _ (by omega)).trans hX3
  have hO4 := own_stableG hO3 (w' := w4) fun k _ hk => hb4.block k hk
  have hL4 := hL3.trans (hb4.mono hL3.size)
  have hv4 := ownV_from hO4
  have hsrc4 : VFrom w4 ao l := hsrc3.keep fun b o e => hb4.block b (by have := HSB.out b o e; omega)
  have hen := HV.out.2.1 (some ⟨g, 0, none⟩) c w4 hv4 (fun b o e => by cases e; omega)
  rw [← HD.out] at hen
  have HX : Hid _ := And.intro hA4 (And.intro hO4 (And.intro hL4 (And.intro hv4 hsrc4)))
  clear hA3 hX3 hO3 hL3 hv3 hsrc3 hb4 hve hvw
  clear hA4 hO4 hL4 hv4 hsrc4
  go_wp2_with (first | (refine wpList_load_row rfl 35 (.tmp 3) rfl (w.heap.size + 1) rfl 35 D' (0, 0) _ hX4 Try.underlying35 rfl hi2 ?_) | fail)
  obtain ⟨hA4, hO4, hL4, hv4, hsrc4⟩ := HX.out
  clear HX
  refine hen.mono ?_
  intro e5 w5 h5
  obtain ⟨ao5, c5, rfl, hf5, hbl5, hb5⟩ := encVx h5 HR.out.1 HR.out.2.1
  have hz5 := hb5.size
  have hA5 : Blk w5 w.heap.size D 35 := (hb5.block _ (by omega)).trans hA4
  have hX5 : Blk w5 (w.heap.size + 1) D' 35 := (hb5.block _ (by omega)).trans hX4
  have hO5 := own_stableG hO4 (w' := w5) fun k _ hk => hb5.block k hk
  have hL5 := hL4.trans (hb5.mono hL4.size)
  have hsrc5 : VFrom w5 ao l := hsrc4.keep fun b o e => hb5.block b (by have := HSB.out b o e; omega)
  have hre := HV.out.2.2.1 ao cv w5 hsrc5 (fun b o e => by have := HSB.out b o e; omega)
  rw [← HM.out.2.2.2.2.2] at hre
  have HX : Hid _ := And.intro hX5 (And.intro hO5 (And.intro hL5 (And.intro hsrc5 (And.intro hf5 hbl5))))
  clear hA4 hX4 hO4 hL4 hv4 hsrc4 hb5 hen h5 hX5 hO5 hL5 hsrc5 hf5 hbl5
  go_wp2_with (first | (refine wpList_load_row rfl 35 (.tmp 1) rfl w.heap.size rfl 35 D (0, 0) _ hA5 Try.underlying35 rfl hi1 ?_) | fail)
  obtain ⟨hX5, hO5, hL5, hsrc5, hf5, hbl5⟩ := HX.out
  clear HX
  refine hre.mono ?_
  intro e6 w6 h6
  obtain ⟨ao6, c6, rfl, hf6, hbl6, hb6⟩ := encVx h6 HR.out.1 HR.out.2.1
  have hz6 := hb6.size
  have hA6 : Blk w6 w.heap.size D 35 := (hb6.block _ (by omega)).trans hA5
  have hX6 : Blk w6 (w.heap.size + 1) D' 35 := (hb6.block _ (by omega)).trans hX5
  have hO6 := own_stableG hO5 (w' := w6) fun k _ hk => hb6.block k hk
  have hL6 := hL5.trans (hb6.mono hL5.size)
  have hsrc6 : VFrom w6 ao l := hsrc5.keep fun b o e => hb6.block b (by have := HSB.out b o e; omega)
  have hf56 : From w6 ao5 bs1 := From.below hf5 hb6
  have hCC : ∀ wr, Below w6.heap.size w6 wr → wr.cell? ⟨w.heap.size, 19, none⟩ = some (.slice ao n cv) ∧ wr.cell? ⟨g, n * 7, none⟩ = some (.string ⟨#[109, 97, 114, 107]⟩) ∧ From wr ao5 bs1 ∧ From wr ao6 bs1 ∧ VFrom wr (some ⟨g, 0, none⟩) l ∧ VFrom wr ao l := by
    intro wr hb
    have hO := own_stableG hO6 (w' := wr) fun k _ hk => hb.block k hk
    have hAw : Blk wr w.heap.size D 35 := (hb.block _ hA6.lt).trans hA6
    refine ⟨(hAw.cell 19).trans hD1, ?_, From.below hf56 hb, From.below hf6 hb, ownV_from hO, hsrc6.keep fun b o e => hb.block b (by have := HSB.out b o e; omega)⟩
    have := ownV_cell hO (j := n * 7 + 0) (rowV_atE _ n 0 markV _ (by rw [List.getElem?_append_right (by rw [← HN.out]; exact Nat.le_refl _), ← HN.out, Nat.sub_self]; rfl) rfl)
    simpa [Str, markV] using this
  have HX : Hid _ := And.intro hA6 (And.intro hX6 (And.intro hO6 (And.intro hL6 hCC)))
  clear hX5 hO5 hL5 hsrc5 hf5 hbl5 hb6 hre h6 hA6 hX6 hO6 hL6 hsrc6 hf56 hCC hf6 hbl6 hA5
  go_wp2_with fail
  rename_i K hK
  refine er8 (Fr.ofLit _ rfl) rfl rfl rfl rfl rfl rfl rfl rfl rfl hok1 hnc HX.out.2.2.2.2 HN.out.symm (by omega) ?_
  intro a7 f7 W7 F7 k1 k3 k4 k5 k67 hb7
  refine hK _ _ ?_
  clear hK
  rw [F7.lit, show ((List.range 114).map f7).toArray = #[f7 0, f7 1, f7 2, f7 3, f7 4, f7 5, f7 6, f7 7, f7 8, f7 9, f7 10, f7 11, f7 12, f7 13, f7 14, f7 15, f7 16, f7 17, f7 18, f7 19, f7 20, f7 21, f7 22, f7 23, f7 24, f7 25, f7 26, f7 27, f7 28, f7 29, f7 30, f7 31, f7 32, f7 33, f7 34, f7 35, f7 36, f7 37, f7 38, f7 39, f7 40, f7 41, f7 42, f7 43, f7 44, f7 45, f7 46, f7 47, f7 48, f7 49, f7 50, f7 51, f7 52, f7 53, f7 54, f7 55, f7 56, f7 57, f7 58, f7 59, f7 60, f7 61, f7 62, f7 63, f7 64, f7 65, f7 66, f7 67, f7 68, f7 69, f7 70, f7 71, f7 72, f7 73, f7 74, f7 75, f7 76, f7 77, f7 78, f7 79, f7 80, f7 81, f7 82, f7 83, f7 84, f7 85, f7 86, f7 87, f7 88, f7 89, f7 90, f7 91, f7 92, f7 93, f7 94, f7 95, f7 96, f7 97, f7 98, f7 99, f7 100, f7 101, f7 102, f7 103, f7 104, f7 105, f7 106, f7 107, f7 108, f7 109, f7 110, f7 111, f7 112, f7 113] from rfl, k1, k3, k4, k5, k67]
  obtain ⟨hA6, hX6, hO6, hL6, -⟩ := HX.out
  have hz7 := hb7.size
  have hA7 : Blk W7 w.heap.size D 35 := (hb7.block _ hA6.lt).trans hA6
  have hX7 : Blk W7 (w.heap.size + 1) D' 35 := (hb7.block _ hX6.lt).trans hX6
  have hO7 := own_stableG hO6 (w' := W7) fun k _ hk => hb7.block k hk
  have hL7 := hL6.trans (hb7.mono hL6.size)
  have HX7 : Hid _ := And.intro hA7 (And.intro hX7 (And.intro hO7 hL7))
  clear HX hA6 hX6 hO6 hL6 hb7 hA7 hX7 hO7 hL7 k1 k3 k4 k5 k67 F7
  go_wp2_with fail
  refine wp_loop_ghost_k (fun q a wr => ∃ (k : Nat) (f : Nat → Value), q = n - k ∧ k ≤ n ∧ Fr 114 a f ∧ f 1 = .pointer (some ⟨w.heap.size, 0, none⟩) ∧ f 3 = .pointer (some ⟨w.heap.size + 1, 0, none⟩) ∧ f 4 = .slice (some ⟨g, 0, none⟩) (n + 1) c ∧ f 5 = .int .i64 (n : Nat) ∧ f 11 = .int .i64 (k : Nat) ∧ wr.ownsRow (w.heap.size + 2) 106 7 (.slice (some ⟨g, 0, none⟩) (n + 1) c) (n + 1) (rowV (((l.take k).map flipV ++ l.drop k) ++ [markV])) ∧ RW g W7 wr) n ⟨0, _, by omega, by omega, Fr.ofLit _ rfl, rfl, rfl, rfl, rfl, rfl, by simpa using HX7.out.2.2.1, RW.refl _ _⟩ ?_
  rintro q a wr ⟨k, f, rfl, hkn, F, k1, k3, k4, k5, k11, hOr, hWr⟩ J K' hJ hK'
  rw [F.lit, show ((List.range 114).map f).toArray = #[f 0, f 1, f 2, f 3, f 4, f 5, f 6, f 7, f 8, f 9, f 10, f 11, f 12, f 13, f 14, f 15, f 16, f 17, f 18, f 19, f 20, f 21, f 22, f 23, f 24, f 25, f 26, f 27, f 28, f 29, f 30, f 31, f 32, f 33, f 34, f 35, f 36, f 37, f 38, f 39, f 40, f 41, f 42, f 43, f 44, f 45, f 46, f 47, f 48, f 49, f 50, f 51, f 52, f 53, f 54, f 55, f 56, f 57, f 58, f 59, f 60, f 61, f 62, f 63, f 64, f 65, f 66, f 67, f 68, f 69, f 70, f 71, f 72, f 73, f 74, f 75, f 76, f 77, f 78, f 79, f 80, f 81, f 82, f 83, f 84, f 85, f 86, f 87, f 88, f 89, f 90, f 91, f 92, f 93, f 94, f 95, f 96, f 97, f 98, f 99, f 100, f 101, f 102, f 103, f 104, f 105, f 106, f 107, f 108, f 109, f 110, f 111, f 112, f 113] from rfl, k1, k3, k4, k5, k11]
  by_cases hlt : k < n
  · obtain ⟨x, hx⟩ : ∃ x, l[k]? = some x := ⟨_, List.getElem?_eq_getElem (by rw [← HN.out]; exact hlt)⟩
    obtain ⟨hfs1, hfs2⟩ := flip_step l k x hx
    have hx' : (((l.take k).map flipV ++ l.drop k) ++ [markV])[k]? = some x := by rw [List.getElem?_append_left (List.getElem?_eq_some_iff.1 hfs1).1]; exact hfs1
    have cx : wr.cell? ⟨g, k * 7 + 6, none⟩ = some (.int .i64 x.held) := ownV_cell hOr (rowV_atE _ k 6 x _ hx' rfl)
    obtain ⟨hset, hfz⟩ := ownV_set hOr (k * 7 + 6) (.int .i64 (bits BinOp.xor IntKind.i64 x.held 1))
    have hnew : (wr.setCell ⟨g, k * 7 + 6, none⟩ (.int .i64 (bits BinOp.xor IntKind.i64 x.held 1))).ownsRow (w.heap.size + 2) 106 7 (.slice (some ⟨g, 0, none⟩) (n + 1) c) (n + 1) (rowV (((l.take (k + 1)).map flipV ++ l.drop (k + 1)) ++ [markV])) := by
      rw [rowV_set _ k x _ hx', List.set_append_left _ _ (List.getElem?_eq_some_iff.1 hfs1).1] at hset
      rw [← hfs2]
      exact hset
    have hWn : RW g W7 (wr.setCell ⟨g, k * 7 + 6, none⟩ (.int .i64 (bits BinOp.xor IntKind.i64 x.held 1))) := hWr.set _ _
    have HO : Hid _ := And.intro hnew hWn
    have HJ : Hid _ := hJ
    have hk1 : (k : Int) < (n : Int) + 1 := by omega
    clear hnew hWn hset hOr hWr hx hx' hfs1 hfs2 hJ k1 k3 k4 k5 k11 F
    go_wp2
    try refine hK' _ _ ?_
    exact Handed.intro (n - (k + 1)) (by omega) (HJ.out _ _ _ ⟨k + 1, _, rfl, by omega, Fr.ofLit _ rfl, rfl, rfl, rfl, rfl, by go_num, HO.out.1, HO.out.2⟩)
  · obtain rfl : k = n := by omega
    obtain ⟨hA7, hX7, hO7, hL7⟩ := HX7.out
    have hz8 : W7.heap.size ≤ wr.heap.size := Nat.le_of_eq hWr.size.symm
    have hz8' : wr.heap.size ≤ W7.heap.size := Nat.le_of_eq hWr.size
    have hO8 : wr.ownsRow (w.heap.size + 2) 106 7 (.slice (some ⟨g, 0, none⟩) (k + 1) c) (k + 1) (rowV (l.map flipV ++ [markV])) := by
      rw [List.take_of_length_le (by rw [← HN.out]; exact Nat.le_refl _), List.drop_of_length_le (by rw [← HN.out]; exact Nat.le_refl _), List.append_nil] at hOr
      exact hOr
    have hA8 : Blk wr w.heap.size D 35 := (hWr.block _ (by omega)).trans hA7
    have hX8 : Blk wr (w.heap.size + 1) D' 35 := (hWr.block _ (by omega)).trans hX7
    have hL8 : Below w.heap.size w wr := BelowRW hL7 hWr (by omega)
    obtain ⟨hY9, hb9, hs9⟩ := box_set wr zeroC D 35
    have hB9 : Blk (wr.alloc (.cells zeroC 35)) wr.heap.size zeroC 35 := heap_alloc_new wr _
    have hX9 : Blk ((wr.alloc (.cells zeroC 35)).setRow wr.heap.size D) (w.heap.size + 1) D' 35 := (hb9.block _ hX8.lt).trans hX8
    have hO9 := own_stableG hO8 (w' := (wr.alloc (.cells zeroC 35)).setRow wr.heap.size D) fun j _ hj => hb9.block j hj
    have hL9 := hL8.trans (hb9.mono hL8.size)
    obtain ⟨l', hl'⟩ : ∃ l', l' = l.map flipV := ⟨_, rfl⟩
    have hn' : l'.length = k := by rw [hl', List.length_map]; exact HN.out.symm
    rw [← hl'] at hO9
    have hcs : ∀ j u, (rowV l')[j]? = some u → ((wr.alloc (.cells zeroC 35)).setRow wr.heap.size D).cell? ((⟨g, 0, none⟩ : Addr).add j) = some u := by
      intro j u hu
      rw [addr_add, Nat.zero_add]
      refine ownV_cell hO9 ?_
      rw [rowV_snoc, List.getElem?_append_left (List.getElem?_eq_some_iff.1 hu).1]
      exact hu
    obtain ⟨i0, hiv, hy0, hy1, hy2⟩ := info_parts Try.info106
    have hg9 : g < wr.heap.size := by omega
    have HX : Hid _ := And.intro hY9 (And.intro hb9 (And.intro hs9 (And.intro hX9 (And.intro hO9 (And.intro hL9 hcs)))))
    have HL' : Hid _ := And.intro hl' hn'
    have hrl : (rowV l').length = k * 7 := by rw [rowV_len, hn']
    clear hY9 hb9 hs9 hX9 hO9 hL9 hcs hA7 hX7 hO7 hL7 hL8 hOr hWr hX8 hO8 HX7 hJ hK' k1 k3 k4 k5 k11 F hl' hn'
    go_wp2_with (first | (refine wpList_load_row rfl 35 (.tmp 1) rfl w.heap.size rfl 35 D (0, 0) _ hA8 Try.underlying35 rfl hi1 ?_) | (rw [zero_is]; refine wpList_store_row rfl 35 (.tmp 12) (.tmp 83) rfl wr.heap.size D rfl rfl 35 zeroC hB9 hi1 (by rw [hsz1]; rfl) hall1 ?_) | (refine wpList_store_row rfl 35 (.tmp 12) (.tmp 83) rfl wr.heap.size D rfl rfl 35 zeroC hB9 hi1 (by rw [hsz1]; rfl) hall1 ?_) | (at_builtin; go_must (refine wpList_append_own _ rfl _ _ 33 rfl ((wr.alloc (.cells zeroC 35)).setRow wr.heap.size D).heap.size 106 i0 _ 7 64 Try.underlying33 hiv hy0 hy1 hy2 rfl (by decide) (.slice none 0 0) 0 [] rfl (World.ownsRow_nil _ _ _ _) _ k c (rowV l') rfl hrl HX.out.2.2.2.2.2.2 (rowV_one l') (by unfold maxLen; omega) (by omega) (Nat.le_refl _) ?_)) | fail)
    intro v10 w10 hO10 hG10 _
    obtain ⟨hY9, hb9, hs9, hX9, hO9, hL9, -⟩ := HX.out
    clear HX hA8 hB9
    generalize (wr.alloc (.cells zeroC 35)).setRow wr.heap.size D = W9 at *
    have hb10 : Below W9.heap.size W9 w10 := (Below.refl _ _).grown hG10 (Nat.le_refl _) (fun j h => by cases h)
    have hz10 := hb10.size
    obtain ⟨ao10, c10, rfl, hv10, hbl10⟩ := ownV_open (by rw [hs9]; simpa using hO10 : w10.ownsRow W9.heap.size 106 7 v10 k (rowV l')) HL'.out.2
    have hY10 : Blk w10 wr.heap.size D 35 := (hb10.block _ (by omega)).trans hY9
    have hX10 : Blk w10 (w.heap.size + 1) D' 35 := (hb10.block _ hX9.lt).trans hX9
    have hO11 := own_stableG hO9 (w' := w10) fun j _ hj => hb10.block j hj
    have hL10 := hL9.trans (hb10.mono hL9.size)
    have cy : w10.cell? ⟨wr.heap.size, 19, none⟩ = some (.slice ao k cv) := (hY10.cell 19).trans hD1
    have fy : w10.frozen? ⟨wr.heap.size, 19, none⟩ = false := hY10.frozen 19
    have hkY : ∀ j, j ≠ wr.heap.size → (w10.setCell ⟨wr.heap.size, 19, none⟩ (.slice ao10 k c10)).heap[j]? = w10.heap[j]? := fun j hj => Below.heap_setCell _ _ _ _ hj
    obtain ⟨E, hE⟩ : ∃ E, E = MC (.slice ao10 k c10) := ⟨_, rfl⟩
    have hY11 : Blk (w10.setCell ⟨wr.heap.size, 19, none⟩ (.slice ao10 k c10)) wr.heap.size E 35 := by
      have := Blk.set hY10 19 (.slice ao10 k c10)
      rw [HM.out.2.2.2.2.2, HM.out.1, ← hE] at this
      exact this
    have hX11 : Blk (w10.setCell ⟨wr.heap.size, 19, none⟩ (.slice ao10 k c10)) (w.heap.size + 1) D' 35 := (hkY _ (by have := hX9.lt; omega)).trans hX10
    have hv11 : VFrom (w10.setCell ⟨wr.heap.size, 19, none⟩ (.slice ao10 k c10)) (some ⟨g, 0, none⟩) l' := (ownV_from hO11).keep fun b o e => hkY b (by cases e; omega)
    have hw11 : VFrom (w10.setCell ⟨wr.heap.size, 19, none⟩ (.slice ao10 k c10)) ao10 l' := hv10.keep fun b o e => hkY b (by have := (hbl10 b o e).1; omega)
    have hL11 : Below w.heap.size w (w10.setCell ⟨wr.heap.size, 19, none⟩ (.slice ao10 k c10)) := hL10.trans ⟨rfl, rfl, rfl, by simp [World.setCell], fun j hj => hkY j (by omega)⟩
    have hs11 : (w10.setCell ⟨wr.heap.size, 19, none⟩ (.slice ao10 k c10)).heap.size = w10.heap.size := by simp [World.setCell]
    have hi3 : (Try.prog.info? 35).map (·.size) = some E.size := by rw [hE]; exact HM.out.2.2.2.2.1 _
    have hen := HV.out.2.2.2.2.1 (some ⟨g, 0, none⟩) c (w10.setCell ⟨wr.heap.size, 19, none⟩ (.slice ao10 k c10)) (by rw [← HL'.out.1]; exact hv11) (fun b o e => by cases e; rw [hs11]; omega)
    rw [← HD.out] at hen
    have hX11' := hX11
    have hz11 : g < w10.heap.size := by omega
    have HX : Hid _ := And.intro hY11 (And.intro hX11 (And.intro hv11 (And.intro hw11 (And.intro hL11 (And.intro hs11 hbl10)))))
    have HE : Hid _ := hE
    clear hY11 hX11 hv11 hw11 hL11 hs11 hbl10 hkY hY10 hX10 hO11 hL10 hY9 hb9 hs9 hX9 hO9 hL9 hb10 hO10 hG10 hv10 hE
    go_wp2_with (first | (refine wpList_load_row rfl 35 (.tmp 3) rfl (w.heap.size + 1) rfl 35 D' (0, 0) _ hX11' Try.underlying35 rfl hi2 ?_) | fail)
    obtain ⟨hY11, hX11, hv11, hw11, hL11, hs11, hbl10⟩ := HX.out
    clear HX hX11' cy fy
    generalize w10.setCell ⟨wr.heap.size, 19, none⟩ (.slice ao10 k c10) = W11 at *
    refine hen.mono ?_
    intro e12 w12 h12
    obtain ⟨ao12, c12, rfl, hf12, hbl12, hb12⟩ := encVx h12 HR.out.2.2.1 HR.out.2.2.2
    have hz12 := hb12.size
    have hY12 : Blk w12 wr.heap.size E 35 := (hb12.block _ hY11.lt).trans hY11
    have hX12 : Blk w12 (w.heap.size + 1) D' 35 := (hb12.block _ hX11.lt).trans hX11
    have hL12 := hL11.trans (hb12.mono hL11.size)
    have hv12 : VFrom w12 (some ⟨g, 0, none⟩) l' := hv11.keep fun b o e => hb12.block b (by cases e; omega)
    have hw12 : VFrom w12 ao10 l' := hw11.keep fun b o e => hb12.block b (by have := (hbl10 b o e).2; omega)
    have hre := HV.out.2.2.2.2.2 ao10 c10 w12 (by rw [← HL'.out.1]; exact hw12) (fun b o e => by have := (hbl10 b o e).2; omega)
    rw [← HE.out] at hre
    have HX : Hid _ := And.intro hX12 (And.intro hL12 (And.intro hv12 (And.intro hf12 hbl12)))
    clear hY11 hX11 hv11 hw11 hL11 hbl10 hb12 hen h12 hX12 hL12 hv12 hw12 hf12 hbl12
    go_wp2_with (first | (refine wpList_load_row rfl 35 (.tmp 12) rfl wr.heap.size rfl 35 E (0, 0) _ hY12 Try.underlying35 rfl hi3 ?_) | fail)
    obtain ⟨hX12, hL12, hv12, hf12, hbl12⟩ := HX.out
    clear HX
    refine hre.mono ?_
    intro e13 w13 h13
    obtain ⟨ao13, c13, rfl, hf13, hbl13, hb13⟩ := encVx h13 HR.out.2.2.1 HR.out.2.2.2
    have hz13 := hb13.size
    have hX13 : Blk w13 (w.heap.size + 1) D' 35 := (hb13.block _ hX12.lt).trans hX12
    have hL13 := hL12.trans (hb13.mono hL12.size)
    have hv13 : VFrom w13 (some ⟨g, 0, none⟩) l' := hv12.keep fun b o e => hb13.block b (by cases e; omega)
    have hal := alike_any ao12 ao13 bs2.length bs2.length c12 c13 bs2 bs2 w13 rfl rfl (From.below hf12 hb13) hf13
    simp only [decide_true] at hal
    have hve := HV.out.2.2.2.1 (some ⟨g, 0, none⟩) c w13 (by rw [← HL'.out.1]; exact hv13) (fun b o e => by cases e; omega)
    rw [← HD.out] at hve
    have HL : Hid _ := hL13
    clear hX12 hL12 hv12 hf12 hbl12 hb13 hre h13 hL13 hv13 hf13 hbl13 hY12
    go_wp2_with (first | (go_at_call 15; refine hal.mono ?_; rintro e14 w14 ⟨rfl, rfl⟩) | (refine load_row_g 35 (.tmp 3) rfl (by rfl) (w.heap.size + 1) rfl 35 D' (0, 0) _ hX13 Try.underlying35 hi2 ?_) | (go_at_call 25; refine hve.mono ?_; rintro e15 w15 ⟨rfl, hb15⟩) | fail)
    go_ret
    exact ⟨by simp [hok2], HL.out.trans (hb15.mono HL.out.size)⟩
end Go.Proofs.Ytneiomimjgfbpaa
