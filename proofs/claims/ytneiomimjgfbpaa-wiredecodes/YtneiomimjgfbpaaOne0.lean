import Derived.Test.YtneiomimjgfbpaaFits
import Derived.Test.YtneiomimjgfbpaaSmall
import Derived.Test.YtneiomimjgfbpaaSame
namespace Go.Proofs.Ytneiomimjgfbpaa
open Go.RowKit Go.PlainAid

set_option maxRecDepth 100000 in
set_option maxHeartbeats 1600000 in
theorem valid_any (m : Msg) (ao : Option Addr) (cv : Nat) (w : World) (hf : Fit m) (hsrc : VFrom w ao m.views) (hsb : ∀ b1 o1, ao = some ⟨b1, o1, none⟩ → b1 < w.heap.size) :
    Calls Try.prog 25 #[.agg (msgCells m (.slice ao m.views.length cv))] w (fun e w' => e = .returned (.bool (message.wr m).isSome) ∧ Below w.heap.size w w') := by
  generalize hD : msgCells m (.slice ao m.views.length cv) = D
  have hsz : D.size = 20 := by rw [← hD]; rfl
  have hi35 : (Try.prog.info? 35).map (·.size) = some D.size := by rw [hsz]; kernel_rfl
  have hb1 : Below w.heap.size w (w.alloc (.cells D 35)) := by go_grown
  have n0 : Blk (w.alloc (.cells D 35)) w.heap.size D 35 := heap_alloc_new w _
  have hen := encode_any m ao cv (w.alloc (.cells D 35)) hf (hsrc.keep fun b1 o1 e => hb1.block b1 (hsb b1 o1 e)) (fun b1 o1 e => by have := hsb b1 o1 e; simp; omega)
  rw [← enc_is, hD] at hen
  clear hD
  go_enter Try.func25, Try.ntmps25
  go_wp2_with (first | (refine wpList_load_row rfl 35 (.tmp 1) rfl w.heap.size rfl 35 D (0, 0) _ n0 Try.underlying35 rfl hi35 ?_) | fail)
  refine hen.mono ?_
  cases hr : message.wr m with
  | none =>
    rintro e1 w1 ⟨hb, rfl⟩
    go_wp2
    go_ret
    exact ⟨by rw [hr]; rfl, hb1.trans (hb.mono hb1.size)⟩
  | some bs =>
    rintro e1 w1 ⟨hb, v, rfl, hv⟩
    obtain ⟨ao1, cap1, rfl, _, _, _, _⟩ := own_from hv
    go_wp2
    go_ret
    exact ⟨by rw [hr]; rfl, hb1.trans (hb.mono hb1.size)⟩
end Go.Proofs.Ytneiomimjgfbpaa
namespace Go.Proofs.Ytneiomimjgfbpaa
open Go.RowKit Go.PlainAid

def exM : Msg := { Msg.zero with kind := 3, name := [107], cap := 10, round := 2, rank := 1 }
theorem exM_wr : message.wr exM = some [3, 1, 107, 10, 0, 2, 1] := by kernel_rfl
theorem exM_rd : whole message [3, 1, 107, 10, 0, 2, 1] = .ok (exM, 0) := by kernel_rfl
def exS : Seg := ⟨0, 1, 0, 7, []⟩
theorem exS_wr : segment.wr exS = some [0, 1, 0, 7, 0] := by kernel_rfl
theorem exQ_rd : whole request [3, 1, 2, 1, 107, 10, 0] = .ok (((3, 1), 2, [107], 5, 0), 0) := by kernel_rfl
theorem exR_wr : reply.wr ((0, 9), 0, -3) = some [0, 9, 0, 5] := by kernel_rfl

theorem From.below {w w' : World} {ao : Option Addr} {bs : List UInt8} (h : From w ao bs) (hb : Below w.heap.size w w') : From w' ao bs := by
  intro h0
  obtain ⟨b, off, rfl, hc⟩ := h h0
  refine ⟨b, off, rfl, fun j u hu => ?_⟩
  have := hc j u hu
  rw [hb.cell (World.block_lt_of_cell? w _ this)]
  exact this

theorem load_row_g {ops : Array Oper} {rest : List Oper} {o : Oper} {a : Act} {w : World} {Q : Exit → Act → World → Prop} (ty : TypeId) (x : Operand) (ho : o.op = .load ty x) (hw : Region.wanted o (yielded ops a.tmps) = true)
    (g : Nat) (hx : a.eval x = .pointer (some ⟨g, 0, none⟩)) (t : TypeId) (cs : Array Value) (fr : Nat × Nat) (fs : _) (hg : w.heap[g]? = some (.cells cs t fr))
    (hu : Try.prog.underlying ty = some (.struct fs)) (hi : (Try.prog.info? ty).map (·.size) = some cs.size)
    (h : wpList Try.prog ops Q rest (a.put o.dst (.agg cs)) w) : wpList Try.prog ops Q (o :: rest) a w :=
  wpList_step fun K hK => by
    rw [if_pos hw]
    exact wp_load_row ty x ho g hx t cs fr _ hg hu rfl hi (hK _ _ h)

set_option maxRecDepth 100000 in
set_option maxHeartbeats 3200000 in
theorem able_any (w : World) :
    Calls Try.prog 9 #[] w (fun e w' => e = .returned (.bool true) ∧ Below w.heap.size w w') := by
  go_enter Try.func9, Try.ntmps9
  go_wp2_with fail
  have f1 : Fit exM := (fit_of exM_wr).1
  have he := encode_any exM none 0 w f1 (by intro i x h; cases h) (by intro b o h; cases h)
  rw [← enc_is, exM_wr] at he
  refine Calls.mono (show Calls Try.prog 14 _ w _ from he) ?_
  rintro e1 w1 ⟨hb1, v1, rfl, hv1⟩
  obtain ⟨ao1, cap1, rfl, _, _, hs1, _⟩ := own_from hv1
  clear he
  go_wp2_with fail
  have hsz1 := hb1.size
  have hd := decode_any w1.heap.size 0 7 7 [3, 1, 107, 10, 0, 2, 1] (w1.alloc (.cells #[.int .u8 3, .int .u8 1, .int .u8 107, .int .u8 10, .int .u8 0, .int .u8 2, .int .u8 1] 5)) rfl (from_mark w1 _ _ _ rfl) (by simp) (by decide) (by decide)
  rw [exM_rd] at hd
  refine Calls.mono hd ?_
  rintro e2 w2 ⟨hb2, ao2, c2, rfl, hv2⟩
  obtain ⟨rfl, rfl⟩ : ao2 = none ∧ c2 = 0 := by
    rcases hv2 with ⟨_, h1, h2⟩ | ⟨_, _, _, _, h, _⟩
    · exact ⟨h1, h2⟩
    · exact absurd h (by decide)
  have hB2 : Below w.heap.size w w2 := hb1.trans ((show Below w1.heap.size w1 (w1.alloc _) from by go_grown).trans (hb2.mono (by simp)) |>.mono hsz1)
  have hs2 : From w2 ao1 [3, 1, 107, 10, 0, 2, 1] := hs1.keep fun b o e => by
    have hlt : b < w1.heap.size := by
      subst e
      exact (hv1.lt b rfl).2
    exact (hb2.block b (by simp; omega)).trans (by rw [Below.heap_alloc _ _ _ (by omega)])
  have hsz2 := hB2.size
  have hle : w1.heap.size ≤ w2.heap.size := by have := hb2.size; simp at this; omega
  clear hd hb2 hv2 hv1 hb1 hs1
  have hall : (msgCells exM (.slice none exM.views.length 0)).all (·.oneCell') = true := by kernel_rfl
  generalize hD : msgCells exM (.slice none exM.views.length 0) = D at *
  have HD : Hid _ := hD
  have hsz : D.size = 20 := by rw [← hD]; rfl
  have hi35 : (Try.prog.info? 35).map (·.size) = some D.size := by rw [hsz]; kernel_rfl
  clear hD f1
  have hB0 : Blk (w2.alloc (.cells zeroC 35)) w2.heap.size zeroC 35 := heap_alloc_new w2 _
  have hB3 := setRow_blk (cs := D) hB0
  have hB4 : Below w2.heap.size w2 ((w2.alloc (.cells zeroC 35)).setRow w2.heap.size D) := (show Below w2.heap.size w2 (w2.alloc _) from by go_grown).trans ⟨rfl, rfl, rfl, by simp [World.setRow], fun k hk => setRow_other _ _ _ _ (by omega)⟩
  have HS : Hid _ := (And.intro hsz1 (And.intro hsz2 (And.intro hle hB2)))
  clear hsz1 hsz2 hle hB2
  go_wp2_with (first | (refine wpList_store_row rfl 35 (.tmp 3) (.tmp 23) rfl w2.heap.size D rfl rfl 35 zeroC hB0 hi35 (by rw [hsz]; rfl) hall ?_) | fail)
  rw [zero_is]
  have hs3 := From.below hs2 hB4
  have hB5 : Below w.heap.size w ((w2.alloc (.cells zeroC 35)).setRow w2.heap.size D) := HS.out.2.2.2.trans (hB4.mono HS.out.2.1)
  generalize hW3 : (w2.alloc (.cells zeroC 35)).setRow w2.heap.size D = W3 at *
  generalize hg : w2.heap.size = g at *
  clear hB0 HS hs2 hB4 hW3 hg
  have he := encodeSeg_any exS none 0 W3 (fun _ => ⟨rfl, rfl⟩) (by intro h; exact absurd h (by decide)) (by intro b o h; cases h) (by decide)
  rw [exS_wr] at he
  refine Calls.mono (show Calls Try.prog 18 _ W3 _ from he) ?_
  rintro e4 w4 ⟨hb4, v4, rfl, hv4⟩
  obtain ⟨ao4, cap4, rfl, _, _, hs4, _⟩ := own_from hv4
  have hB4 : Blk w4 g D 35 := (hb4.block g hB3.lt).trans hB3
  have hs3 := From.below hs3 hb4
  have hB5 := hB5.trans (hb4.mono hB5.size)
  clear he hv4 hb4 hB3
  go_wp2_with fail
  have hd := decodeReq_any w4.heap.size 0 7 7 [3, 1, 2, 1, 107, 10, 0] (w4.alloc (.cells #[.int .u8 3, .int .u8 1, .int .u8 2, .int .u8 1, .int .u8 107, .int .u8 10, .int .u8 0] 5)) rfl (from_mark w4 _ _ _ rfl) (by simp) (by decide) (by decide)
  rw [exQ_rd] at hd
  refine Calls.mono hd ?_
  rintro e5 w5 ⟨hb5, rfl⟩
  have hb5 : Below w4.heap.size w4 w5 := (show Below w4.heap.size w4 (w4.alloc _) from by go_grown).trans (hb5.mono (by simp))
  have hB5' : Blk w5 g D 35 := (hb5.block g hB4.lt).trans hB4
  have hs3 := From.below hs3 hb5
  have hs4 := From.below hs4 hb5
  have hB5 := hB5.trans (hb5.mono hB5.size)
  clear hd hb5 hB4
  simp only [callCells, opCells, Str]
  go_wp2_with fail
  have hb6 : Below w5.heap.size w5 ((w5.alloc (.cells #[.int .i64 3, .int .i64 1] 29)).alloc (.cells #[.int .i64 2, .string ⟨#[107]⟩, .int .i64 5, .int .i64 0] 31)) := by go_grown
  have cq : ((w5.alloc (.cells #[.int .i64 3, .int .i64 1] 29)).alloc (.cells #[.int .i64 2, .string ⟨#[107]⟩, .int .i64 5, .int .i64 0] 31)).cell? ⟨w5.heap.size, 0, none⟩ = some (.int .i64 3) := by
    rw [cell_of_row _ w5.heap.size 0 #[.int .i64 3, .int .i64 1] 29 (0, 0) ((Below.heap_alloc _ _ _ (by simp)).trans (heap_alloc_new w5 _))]; rfl
  have co : ((w5.alloc (.cells #[.int .i64 3, .int .i64 1] 29)).alloc (.cells #[.int .i64 2, .string ⟨#[107]⟩, .int .i64 5, .int .i64 0] 31)).cell? ⟨w5.heap.size + 1, 2, none⟩ = some (.int .i64 5) := by
    have := heap_alloc_new (w5.alloc (.cells #[.int .i64 3, .int .i64 1] 29)) (.cells #[.int .i64 2, .string ⟨#[107]⟩, .int .i64 5, .int .i64 0] 31)
    rw [World.size_alloc] at this
    rw [cell_of_row _ (w5.heap.size + 1) 2 _ 31 (0, 0) this]; rfl
  have hB6 : Blk ((w5.alloc (.cells #[.int .i64 3, .int .i64 1] 29)).alloc (.cells #[.int .i64 2, .string ⟨#[107]⟩, .int .i64 5, .int .i64 0] 31)) g D 35 := (hb6.block g hB5'.lt).trans hB5'
  have hs3 := From.below hs3 hb6
  have hs4 := From.below hs4 hb6
  have hB5 := hB5.trans (hb6.mono hB5.size)
  have hl6 : w5.heap.size + 1 < ((w5.alloc (.cells #[.int .i64 3, .int .i64 1] 29)).alloc (.cells #[.int .i64 2, .string ⟨#[107]⟩, .int .i64 5, .int .i64 0] 31)).heap.size := by simp
  generalize (w5.alloc (.cells #[.int .i64 3, .int .i64 1] 29)).alloc (.cells #[.int .i64 2, .string ⟨#[107]⟩, .int .i64 5, .int .i64 0] 31) = W6 at *
  generalize w5.heap.size = h at *
  clear hb6 hB5'
  have he := encodeRep_any ((0, 9), 0, -3) W6 (by decide) (by decide)
  rw [exR_wr] at he
  refine Calls.mono (show Calls Try.prog 22 _ W6 _ from he) ?_
  rintro e7 w7 ⟨hb7, v7, rfl, hv7⟩
  obtain ⟨ao7, cap7, rfl, _, _, hs7, _⟩ := own_from hv7
  have hB7 : Blk w7 g D 35 := (hb7.block g hB6.lt).trans hB6
  have hs3 := From.below hs3 hb7
  have hs4 := From.below hs4 hb7
  have hB5 := hB5.trans (hb7.mono hB5.size)
  have cq : w7.cell? ⟨h, 0, none⟩ = some (.int .i64 3) := (hb7.cell (by simp; omega)).trans cq
  have co : w7.cell? ⟨h + 1, 2, none⟩ = some (.int .i64 5) := (hb7.cell (by simp; omega)).trans co
  clear he hv7 hb7 hB6
  go_wp2_with fail
  have hb8 : Below w7.heap.size w7 (w7.alloc (.cells #[.int .u8 3, .int .u8 1, .int .u8 107, .int .u8 10, .int .u8 0, .int .u8 2, .int .u8 1] 5)) := by go_grown
  refine Calls.mono (alike_any ao1 (some ⟨w7.heap.size, 0, none⟩) 7 7 cap1 7 [3, 1, 107, 10, 0, 2, 1] [3, 1, 107, 10, 0, 2, 1] _ rfl rfl (From.below hs3 hb8) (from_mark w7 [3, 1, 107, 10, 0, 2, 1] _ _ rfl)) ?_
  rw [show decide (([3, 1, 107, 10, 0, 2, 1] : List UInt8) = [3, 1, 107, 10, 0, 2, 1]) = true from by decide]
  rintro e8 w8 ⟨rfl, hw8⟩
  rw [← hw8] at hb8
  have hs4 := From.below hs4 hb8
  have hs7 := From.below hs7 hb8
  have cq := (hb8.cell (World.block_lt_of_cell? _ _ cq)).trans cq
  have co := (hb8.cell (World.block_lt_of_cell? _ _ co)).trans co
  have hB7 : Blk w8 g D 35 := (hb8.block g hB7.lt).trans hB7
  have hB5 := hB5.trans (hb8.mono hB5.size)
  have d0 : w8.cell? ⟨g, 0, none⟩ = some (.int .i64 3) := (hB7.cell 0).trans (by rw [← HD.out]; rfl)
  have d2 : w8.cell? ⟨g, 2, none⟩ = some (.int .i64 10) := (hB7.cell 2).trans (by rw [← HD.out]; rfl)
  have d4 : w8.cell? ⟨g, 4, none⟩ = some (.int .i64 2) := (hB7.cell 4).trans (by rw [← HD.out]; rfl)
  clear hb8 hw8
  go_wp2_with fail
  have hb9 : Below w8.heap.size w8 (w8.alloc (.cells #[.int .u8 0, .int .u8 1, .int .u8 0, .int .u8 7, .int .u8 0] 5)) := by go_grown
  refine Calls.mono (alike_any ao4 (some ⟨w8.heap.size, 0, none⟩) 5 5 cap4 5 [0, 1, 0, 7, 0] [0, 1, 0, 7, 0] _ rfl rfl (From.below hs4 hb9) (from_mark w8 [0, 1, 0, 7, 0] _ _ rfl)) ?_
  rw [show decide (([0, 1, 0, 7, 0] : List UInt8) = [0, 1, 0, 7, 0]) = true from by decide]
  rintro e9 w9 ⟨rfl, hw9⟩
  rw [← hw9] at hb9
  have hs4 := From.below hs4 hb9
  have hs7 := From.below hs7 hb9
  have cq := (hb9.cell (World.block_lt_of_cell? _ _ cq)).trans cq
  have co := (hb9.cell (World.block_lt_of_cell? _ _ co)).trans co
  have hB7 : Blk w9 g D 35 := (hb9.block g hB7.lt).trans hB7
  have hB5 := hB5.trans (hb9.mono hB5.size)
  have d0 : w9.cell? ⟨g, 0, none⟩ = some (.int .i64 3) := (hB7.cell 0).trans (by rw [← HD.out]; rfl)
  have d2 : w9.cell? ⟨g, 2, none⟩ = some (.int .i64 10) := (hB7.cell 2).trans (by rw [← HD.out]; rfl)
  have d4 : w9.cell? ⟨g, 4, none⟩ = some (.int .i64 2) := (hB7.cell 4).trans (by rw [← HD.out]; rfl)
  clear hb9 hw9
  go_wp2_with fail
  have hb10 : Below w9.heap.size w9 (w9.alloc (.cells #[.int .u8 0, .int .u8 9, .int .u8 0, .int .u8 5] 5)) := by go_grown
  refine Calls.mono (alike_any ao7 (some ⟨w9.heap.size, 0, none⟩) 4 4 cap7 4 [0, 9, 0, 5] [0, 9, 0, 5] _ rfl rfl (From.below hs7 hb10) (from_mark w9 [0, 9, 0, 5] _ _ rfl)) ?_
  rw [show decide (([0, 9, 0, 5] : List UInt8) = [0, 9, 0, 5]) = true from by decide]
  rintro e10 w10 ⟨rfl, hw10⟩
  rw [← hw10] at hb10
  have hs4 := From.below hs4 hb10
  have hs7 := From.below hs7 hb10
  have cq := (hb10.cell (World.block_lt_of_cell? _ _ cq)).trans cq
  have co := (hb10.cell (World.block_lt_of_cell? _ _ co)).trans co
  have hB7 : Blk w10 g D 35 := (hb10.block g hB7.lt).trans hB7
  have hB5 := hB5.trans (hb10.mono hB5.size)
  have d0 : w10.cell? ⟨g, 0, none⟩ = some (.int .i64 3) := (hB7.cell 0).trans (by rw [← HD.out]; rfl)
  have d2 : w10.cell? ⟨g, 2, none⟩ = some (.int .i64 10) := (hB7.cell 2).trans (by rw [← HD.out]; rfl)
  have d4 : w10.cell? ⟨g, 4, none⟩ = some (.int .i64 2) := (hB7.cell 4).trans (by rw [← HD.out]; rfl)
  clear hb10 hw10
  have hva := valid_any exM none 0 w10 (fit_of exM_wr).1 (by intro i x h; cases h) (by intro b o h; cases h)
  rw [exM_wr, HD.out] at hva
  clear d0 d2 d4
  go_wp2_with (first | (refine load_row_g 35 (.tmp 3) rfl (by rfl) g rfl 35 D (0, 0) _ hB7 Try.underlying35 hi35 ?_) | (go_at_call 25; refine hva.mono ?_; rintro e11 w11 ⟨rfl, hb11⟩) | fail)
  go_ret
  exact ⟨rfl, hB5.trans (hb11.mono hB5.size)⟩
end Go.Proofs.Ytneiomimjgfbpaa
namespace Go.Proofs.Ytneiomimjgfbpaa
open Go.RowKit Go.PlainAid

theorem whole_ok {α : Type} {c : Codec α} (hL : Lawful c) {l : List UInt8} {x : α} {k : Nat} (h : whole c l = .ok (x, k)) : c.wr x = some l := by
  unfold whole at h
  cases hr : c.rd l with
  | error j => rw [hr] at h; cases h
  | ok v =>
    obtain ⟨y, j⟩ := v
    rw [hr] at h
    simp only at h
    split at h
    · cases h
    · rename_i hj
      cases h
      obtain ⟨h1, h2⟩ := hL.back l _ j hr
      rw [h2, List.take_of_length_le (by omega)]
theorem whole_error {α : Type} {c : Codec α} (hL : Lawful c) {l : List UInt8} {k : Nat} (h : whole c l = .error k) : k ≤ l.length := by
  unfold whole at h
  cases hr : c.rd l with
  | error j => rw [hr] at h; cases h; exact hL.place l _ hr
  | ok v =>
    obtain ⟨y, j⟩ := v
    rw [hr] at h
    simp only at h
    split at h
    · cases h; omega
    · cases h

/-- Taken, or refused at a place within. -/
def Took {α : Type} (c : Codec α) (zero : α) (xs : List UInt8) (m : α) (at' er : Int) : Prop := (er = 0 ∧ at' = 0 ∧ c.wr m = some xs) ∨ (er = 20 ∧ 0 ≤ at' ∧ at' ≤ (xs.length : Nat) ∧ m = zero)
theorem Took.one {α : Type} {c : Codec α} {zero : α} {xs : List UInt8} {m : α} {at' er : Int} (h : Took c zero xs m at' er) {n : Nat} (hn : xs.length = n) {z : Bool} (hz : m = zero → z = true) : (if er == 0 then at' == 0 else er == 20 && decide (0 ≤ at') && decide (at' ≤ (n : Nat)) && z) = true := by
  rcases h with ⟨rfl, rfl, _⟩ | ⟨rfl, h1, h2, h3⟩
  · rfl
  · subst hn
    rw [hz h3, decide_eq_true h1, decide_eq_true h2]
    rfl

theorem dec_took {xs : List UInt8} {w : World} {e : Ending} {w' : World} (h : DecPost (whole message xs) w e w') : Below w.heap.size w w' ∧ ∃ m ao c at' er, e = .returned (.tuple #[.agg (msgCells m (.slice ao m.views.length c)), .int .i64 at', .int .i64 er]) ∧ VRow w' w.heap.size ao c m.views ∧ Took message Msg.zero xs m at' er := by
  obtain ⟨hb, h⟩ := h
  refine ⟨hb, ?_⟩
  cases hr : whole message xs with
  | error k =>
    rw [hr] at h
    exact ⟨Msg.zero, none, 0, k, 20, h, Or.inl ⟨rfl, rfl, rfl⟩, Or.inr ⟨rfl, by omega, by have := whole_error law_message hr; omega, rfl⟩⟩
  | ok v =>
    obtain ⟨m, k⟩ := v
    rw [hr] at h
    obtain ⟨ao, c, h1, h2⟩ := h
    exact ⟨m, ao, c, 0, 0, h1, h2, Or.inl ⟨rfl, rfl, whole_ok law_message hr⟩⟩
theorem decS_took {xs : List UInt8} {w : World} {e : Ending} {w' : World} (h : DecSPost (whole segment xs) w e w') : Below w.heap.size w w' ∧ ∃ m ao c at' er, e = .returned (.tuple #[.agg (segCells m.src m.dst m.seq m.ack (.slice ao m.data.length c)), .int .i64 at', .int .i64 er]) ∧ w'.ownsRow w.heap.size 5 1 (.slice ao m.data.length c) m.data.length (m.data.map B) ∧ Took segment ⟨0, 0, 0, 0, []⟩ xs m at' er := by
  obtain ⟨hb, h⟩ := h
  refine ⟨hb, ?_⟩
  cases hr : whole segment xs with
  | error k =>
    rw [hr] at h
    exact ⟨⟨0, 0, 0, 0, []⟩, none, 0, k, 20, h, World.ownsRow_nil _ _ _ _, Or.inr ⟨rfl, by omega, by have := whole_error law_segment hr; omega, rfl⟩⟩
  | ok v =>
    obtain ⟨m, k⟩ := v
    rw [hr] at h
    obtain ⟨ao, c, h1, h2⟩ := h
    exact ⟨m, ao, c, 0, 0, h1, h2, Or.inl ⟨rfl, rfl, whole_ok law_segment hr⟩⟩
theorem decQ_took {xs : List UInt8} {w : World} {e : Ending} {w' : World} (h : DecQPost (whole request xs) w e w') : Below w.heap.size w w' ∧ ∃ q o at' er, e = .returned (.tuple #[.agg (callCells q), .agg (opCells o), .int .i64 at', .int .i64 er]) ∧ Took request ((0, 0), 0, [], 0, 0) xs (q, o) at' er := by
  obtain ⟨hb, h⟩ := h
  refine ⟨hb, ?_⟩
  cases hr : whole request xs with
  | error k =>
    rw [hr] at h
    exact ⟨(0, 0), (0, [], 0, 0), k, 20, h, Or.inr ⟨rfl, by omega, by have := whole_error law_request hr; omega, rfl⟩⟩
  | ok v =>
    obtain ⟨⟨q, o⟩, k⟩ := v
    rw [hr] at h
    exact ⟨q, o, 0, 0, h, Or.inl ⟨rfl, rfl, whole_ok law_request hr⟩⟩
theorem decR_took {xs : List UInt8} {w : World} {e : Ending} {w' : World} (h : DecRPost (whole reply xs) w e w') : Below w.heap.size w w' ∧ ∃ r at' er, e = .returned (.tuple #[.agg (repCells r), .int .i64 at', .int .i64 er]) ∧ Took reply ((0, 0), 0, 0) xs r at' er := by
  obtain ⟨hb, h⟩ := h
  refine ⟨hb, ?_⟩
  cases hr : whole reply xs with
  | error k =>
    rw [hr] at h
    exact ⟨((0, 0), 0, 0), k, 20, h, Or.inr ⟨rfl, by omega, by have := whole_error law_reply hr; omega, rfl⟩⟩
  | ok v =>
    obtain ⟨r, k⟩ := v
    rw [hr] at h
    exact ⟨r, 0, 0, h, Or.inl ⟨rfl, rfl, whole_ok law_reply hr⟩⟩
end Go.Proofs.Ytneiomimjgfbpaa
namespace Go.Proofs.Ytneiomimjgfbpaa
open Go.RowKit Go.PlainAid

theorem VRow.vfrom {w : World} {base : Nat} {ao : Option Addr} {c : Nat} {l : List View} (h : VRow w base ao c l) : VFrom w ao l ∧ ∀ b o, ao = some ⟨b, o, none⟩ → b < w.heap.size := by
  rcases h with ⟨rfl, rfl, _⟩ | ⟨vb, rfl, _, _, _, hB⟩
  · exact ⟨fun i x h => (by cases h), fun b o h => (by cases h)⟩
  · refine ⟨fun i x hx => ⟨vb, 0, rfl, fun j cc hc => ?_⟩, fun b o h => (by cases h; exact hB.lt)⟩
    rw [Nat.zero_add, hB.cell, List.getElem?_toArray]
    exact cellsOf_get l i j x hx cc hc

theorem Fr.lit {N : Nat} {a : Act} {f : Nat → Value} (h : Fr N a f) : a = { tmps := ((List.range N).map f).toArray, defers := [] } := by
  obtain ⟨t, d⟩ := a
  have h1 := h.size
  have h2 := h.defers
  simp only at h1 h2
  subst h2
  congr 1
  apply Array.ext_getElem?
  intro i
  by_cases hi : i < N
  · rw [h.get i hi]
    simp [hi]
  · rw [Array.getElem?_eq_none (by omega), Array.getElem?_eq_none (by simp; omega)]
end Go.Proofs.Ytneiomimjgfbpaa
namespace Go.Proofs.Ytneiomimjgfbpaa
open Go.RowKit Go.PlainAid
set_option linter.unusedSimpArgs false

theorem eql55 (xs xi xe xv ys yi ye yv : Int) (w : World) : Sem.run Try.prog (binOp .eql 55 (.agg #[.int .i64 xs, .int .i64 xi, .int .i64 xe, .int .i64 xv]) (.agg #[.int .i64 ys, .int .i64 yi, .int .i64 ye, .int .i64 yv])) w = .ok (.bool (xs == ys && xi == yi && xe == ye && xv == yv)) w := by
  simp [go_sem]
  by_cases h : xs = ys
  · subst h
    try simp
    by_cases h : xi = yi
    · subst h
      try simp
      by_cases h : xe = ye
      · subst h
        try simp
        by_cases h : xv = yv
        · subst h
          try simp
        · simp [h]
      · simp [h]
    · simp [h]
  · simp [h]
theorem seg_some {m : Seg} {bs : List UInt8} (h : segment.wr m = some bs) : m.data.length ≤ 4000 := by
  have e := segment_wr m.src m.dst m.seq m.ack m.data
  rw [show (⟨m.src, m.dst, m.seq, m.ack, m.data⟩ : Seg) = m from rfl, h] at e
  obtain ⟨_, _, _, e⟩ := join_some e.symm
  obtain ⟨_, _, _, e⟩ := join_some e
  obtain ⟨_, _, _, e⟩ := join_some e
  obtain ⟨_, _, _, e⟩ := join_some e
  rw [dataC_wr] at e
  obtain ⟨_, _, e, _⟩ := join_some e
  have := (num_some e).2
  have : highOf m.seq ≤ 4000 := by unfold highOf; split <;> omega
  omega
theorem rep_some {r : (Int × Int) × Int × Int} {bs : List UInt8} (h : reply.wr r = some bs) : (-9223372036854775808 : Int) ≤ r.2.2 ∧ r.2.2 < 9223372036854775808 := by
  have e : reply.wr r = join (call.wr r.1) (join (errno.wr r.2.1) (signed.wr r.2.2)) := rfl
  rw [e] at h
  obtain ⟨_, _, _, h⟩ := join_some h
  obtain ⟨_, _, _, h⟩ := join_some h
  exact signed_some h
theorem req_some {q : Int × Int} {o : Int × List UInt8 × Int × Int} {bs : List UInt8} (h : request.wr (q, o) = some bs) : o.2.1.length ≤ 16 ∧ (-9223372036854775808 : Int) ≤ o.2.2.1 ∧ o.2.2.1 < 9223372036854775808 ∧ (-9223372036854775808 : Int) ≤ o.2.2.2 ∧ o.2.2.2 < 9223372036854775808 := by
  have e : request.wr (q, o) = join (call.wr q) (op.wr o) := rfl
  rw [e] at h
  obtain ⟨_, _, _, h⟩ := join_some h
  exact op_some h
theorem Fr.ofLit {N : Nat} (t : Array Value) (h : t.size = N) : Fr N { tmps := t, defers := [] } (fun j => t.getD j undef) := by
  refine ⟨h, rfl, fun j hj => ?_⟩
  simp [Array.getD, h, hj]
end Go.Proofs.Ytneiomimjgfbpaa
