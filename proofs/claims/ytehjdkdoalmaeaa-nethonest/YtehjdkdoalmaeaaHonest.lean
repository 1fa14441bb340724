import Derived.Test.YtehjdkdoalmaeaaHon0
import Derived.Lib.SlBytesConst
namespace Go.Proofs.Ytehjdkdoalmaeaa
open Go.RowKit Go.PlainAid
set_option linter.unusedVariables false
set_option linter.unusedSimpArgs false
section
variable {ops : Array Oper} {C : World → Prop} {eff : Nat → Bool} {Q : Act → World → Prop} {a : Act} {w w1 : World} {rest : List Oper} {o : Oper} {f : Nat → Value} {N d k z : Nat}
theorem lep (hF : Fr N a f) (he : eff k = true) (hC : C w) (hd : o.dst = some d) (hN : d < N) (hw : Region.wanted o (yielded ops a.tmps) = true) {v : Value} (hr : (execOp a.eval o).run Try.prog w = .ok (.value v) w1)
    (h : Fr N (a.put (some d) v) (upd f d v) → wpLex Try.prog ops C eff z Q rest (k + 1) (a.put (some d) v) w1) : wpLex Try.prog ops C eff z Q (o :: rest) k a w := by
  refine ⟨hC, ?_⟩
  rw [if_pos he]
  exact Or.inl ⟨hw, Or.inl ⟨v, w1, Or.inl hr, by rw [hd]; exact h (hF.put d v hN)⟩⟩
end
def first5 : List UInt8 := [102, 105, 114, 115, 116]
theorem first_from (w : World) : From (w.alloc (.cells #[.int .u8 102, .int .u8 105, .int .u8 114, .int .u8 115, .int .u8 116] 5 (5, 6))) (some ⟨w.heap.size, 0, none⟩) first5 := from_mark w first5 _ _ rfl
theorem first_dt (w : World) (f t : Int) : Dt (w.alloc (.cells #[.int .u8 102, .int .u8 105, .int .u8 114, .int .u8 115, .int .u8 116] 5 (5, 6))) ⟨f, t, .slice (some ⟨w.heap.size, 0, none⟩) 5 5, first5⟩ :=
  ⟨_, _, rfl, first_from w, fun b o e => by cases e; exact ⟨_, _, heap_alloc_new w _⟩⟩
theorem first_conv (w : World) (g : Nat) (hg : g = w.heap.size) : (convert 29 29 (.slice (some ⟨g, 0, none⟩) 5 5)).run Try.prog (w.alloc (.cells #[.int .u8 102, .int .u8 105, .int .u8 114, .int .u8 115, .int .u8 116] 5)) = .ok (.slice (some ⟨g, 0, none⟩) 5 5) (w.alloc (.cells #[.int .u8 102, .int .u8 105, .int .u8 114, .int .u8 115, .int .u8 116] 5 (5, 6))) := by
  subst hg
  exact Lib.run_convert_bytes_const w 29 5 #[.int .u8 102, .int .u8 105, .int .u8 114, .int .u8 115, .int .u8 116] 5 5 Try.underlying29 Try.underlying5

def opC (kind who oi oj lf lt' : Int) (d : Value) : Array Value := #[.int .i64 kind, .int .i64 who, .int .i64 oi, .int .i64 oj, .int .i64 lf, .int .i64 lt', d]
def lenOf : Value → Nat
  | .slice _ n _ => n
  | _ => 0
theorem blk43 {w : World} {ob : Nat} {kind who oi oj lf lt' : Int} {d : Value} (h : Blk w ob (opC kind who oi oj lf lt' d) 43) : w.cell? ⟨ob, 0, none⟩ = some (.int .i64 kind) ∧ w.cell? ⟨ob, 2, none⟩ = some (.int .i64 oi) ∧ w.cell? ⟨ob, 3, none⟩ = some (.int .i64 oj) ∧ w.cell? ⟨ob, 4, none⟩ = some (.int .i64 lf) ∧ w.cell? ⟨ob, 5, none⟩ = some (.int .i64 lt') ∧ w.cell? ⟨ob, 6, none⟩ = some d :=
  ⟨h.cell 0, h.cell 2, h.cell 3, h.cell 4, h.cell 5, h.cell 6⟩
theorem Hon.stpBlk {W : World} {n : Nat} {v v' v7 : Value} {lv ss : List LetV} {wr w' : World} (h : Hon W n v v7 lv ss wr) (hst : Stp W.heap.size v v' wr w') {ob : Nat} {D : Array Value} (hb : Blk wr ob D 43) : Blk w' ob D 43 := (hst.typed h.bag hb (by decide) (by decide)).trans hb
set_option maxRecDepth 100000 in
set_option maxHeartbeats 25600000 in
theorem honest_law (room : Int) (ao : Option Addr) (N cap : Nat) (os : List OpA) (W : World) (hN : os.length = N) (hmax : N ≤ maxLen) (hok : ∀ o ∈ os, ArgOk W o.l) (hat : 0 < N → ∃ b off, ao = some ⟨b, off, none⟩ ∧ ∀ i o, os[i]? = some o → OpAt W b (off + i * 7) o) :
    Calls Try.prog 5 #[.int .i64 room, .slice ao N cap] W fun e W' => e = .returned (.bool true) ∧ Below W.heap.size W W' := by
  have hmax' : N ≤ 9223372036854775807 := by simpa [maxLen] using hmax
  have hfits := fits_any ao N cap os W hN hmax hok hat
  obtain ⟨m, hm, hbit⟩ := and1023 room
  have hnew := new_any (1 + m) W (by omega) (by omega)
  rw [show (((1 + m : Nat)) : Int) = 1 + (m : Int) from by omega] at hnew
  go_enter Try.func5, Try.ntmps5
  go_wp2_with fail
  refine hfits.mono ?_
  rintro e1 w0 ⟨⟨bb, rfl, hfit⟩, rfl⟩
  clear hfits
  cases bb
  · go_wp2
    go_ret
    exact ⟨rfl, Below.refl _ _⟩
  obtain ⟨hN2, hsmall⟩ := hfit rfl
  rw [hN] at hN2
  have hb1 : Below w0.heap.size w0 (w0.alloc (.cells #[.int .i64 (1 + (m : Int)), .slice none 0 0] 54)) := by go_grown
  have hbag1 : Bag w0.heap.size w0.heap.size (1 + m) (.slice none 0 0) [] (w0.alloc (.cells #[.int .i64 (1 + (m : Int)), .slice none 0 0] 54)) := by
    have := new_bag w0.heap.size (1 + m) w0
    rwa [show (((1 + m : Nat)) : Int) = 1 + (m : Int) from by omega] at this
  have hsz1 : (w0.alloc (.cells #[.int .i64 (1 + (m : Int)), .slice none 0 0] 54)).heap.size = w0.heap.size + 1 := World.size_alloc _ _
  have HB1 : Hid _ := hbag1
  have HBB : Hid _ := hb1
  have hcv := first_conv (w0.alloc (.cells #[.int .i64 (1 + (m : Int)), .slice none 0 0] 54)) (w0.heap.size + 1) hsz1.symm
  clear hbag1 hb1
  go_wp2_with (first | (go_at_call 8; refine hnew.mono ?_; rintro e2 w1 ⟨rfl, rfl⟩) | (go_at_call 9; refine (num_any _ _).mono ?_; rintro e3 w3 ⟨rfl, rfl⟩) | fail)
  have hHA : Hon w0 (1 + m) (.slice none 0 0) (.slice none 0 0) [] [] (w0.alloc (.cells #[.int .i64 (1 + (m : Int)), .slice none 0 0] 54)) := ⟨HB1.out, World.ownsRow_nil _ _ _ _, (fun x hx => by cases hx), (fun j hj => by cases hj), HBB.out⟩
  clear HB1 HBB hnew hcv
  generalize (w0.alloc (.cells #[.int .i64 (1 + (m : Int)), .slice none 0 0] 54)) = w1 at *
  have hH1 := hHA.up (w' := w1.alloc (.cells #[.int .u8 102, .int .u8 105, .int .u8 114, .int .u8 115, .int .u8 116] 5 (5, 6))) ((Below.refl _ _).alloc (Nat.le_refl _) _)
  have hsend := send_room _ hH1.bag (by omega) (by simp; omega) (by simp; omega) (-1) (-1) (some ⟨w1.heap.size, 0, none⟩) 5 5 first5 rfl (by intro h; cases h) (by omega) (first_from w1) (fun b o e => by cases e; simp)
  rw [hsz1] at hsend
  refine hsend.mono ?_
  rintro e4 w4 ⟨rfl, v4, d4, hBag4, hst4, _⟩
  have hH4 := hH1.bagStep hBag4 hst4
  have hlen4 : Calls Try.prog 12 #[.pointer (some ⟨w0.heap.size, 0, none⟩)] w4 fun r w' => r = .returned (.int .i64 1) ∧ w' = w4 := len_any w4 hBag4
  have hcv2 := first_conv w4 w4.heap.size rfl
  have hH5 := hH4.up (w' := w4.alloc (.cells #[.int .u8 102, .int .u8 105, .int .u8 114, .int .u8 115, .int .u8 116] 5 (5, 6))) ((Below.refl _ _).alloc (Nat.le_refl _) _)
  obtain ⟨v7, w7, hr7, hH7, _⟩ := hH5.put (-1) (-1) (.slice (some ⟨w4.heap.size, 0, none⟩) 5 5) first5 (first_dt w4 _ _) (by simp) 22
  rw [World.size_alloc] at hr7
  have hA7 : Agree (1 + m) ([] ++ [(⟨-1, -1, d4, first5⟩ : LetV)]) ([] ++ [(⟨-1, -1, .slice (some ⟨w4.heap.size, 0, none⟩) 5 5, first5⟩ : LetV)]) := Agree.put ⟨List.Perm.refl _, by simp, fun x hx => by cases hx⟩ _ _ rfl (by simp; omega) (show (5 : Nat) ≤ 1048576 by omega)
  have HH : Hid _ := hH7
  have HA : Hid _ := hA7
  clear hsend hst4 hBag4 hHA hH1 hH4 hH5 hH7 hA7
  go_wp2_with (first | (go_at_call 9; refine (num_any _ _).mono ?_; rintro e5 w5 ⟨rfl, rfl⟩) | (go_at_call 12; refine hlen4.mono ?_; rintro e6 w6 ⟨rfl, rfl⟩) | (at_builtin; go_must (refine wpList_append_run rfl _ _ rfl _ _ _ rfl rfl hr7 ?_)) | fail)

  clear hcv2 hlen4 hr7
  go_loopw [7, 8] (fun s x wr => ∃ k : Nat, k ≤ N ∧ x = .int .i64 k ∧ ∃ v lv ss, Hon w0 (1 + m) v s lv ss wr ∧ Agree (1 + m) lv ss) (fun _ x _ => N - (intOf x).toNat)
  case atStart => exact ⟨0, Nat.zero_le _, rfl, _, _, _, HH.out, HA.out⟩
  case round =>
    obtain ⟨k, hk, rfl, v, lv, ss, hH, hA⟩ := hrel
    clear HH HA
    have hll := hA.len
    have hsl := hA.lens
    obtain ⟨so, sc, rfl, _⟩ := own_slice hH.own
    by_cases hlt : k < N
    · obtain ⟨b, off, rfl, hcell⟩ := hat (by omega)
      obtain ⟨⟨kind, who, oi, oj, ⟨lf, lt', lao, lcap, lbs⟩⟩, ho⟩ : ∃ o, os[k]? = some o := ⟨os[k]'(by omega), List.getElem?_eq_getElem _⟩
      have hop := hcell k _ ho
      have hco := hok _ (List.mem_of_getElem? ho)
      have hos := hsmall _ (List.mem_of_getElem? ho)
      have lt : ∀ {ad : Addr} {v : Value}, w0.cell? ad = some v → wr.cell? ad = some v := fun h => (hH.below.cell (World.block_lt_of_cell? w0 _ h)).trans h
      have p0 := lt hop.c0
      have p1 := lt hop.c1
      have p2 := lt hop.c2
      have p3 := lt hop.c3
      have p4 := lt hop.l.c0
      have p5 := lt hop.l.c1
      have p6 := lt hop.l.c2
      rw [show off + k * 7 + 4 + 1 = off + k * 7 + 5 from by omega] at p5
      rw [show off + k * 7 + 4 + 2 = off + k * 7 + 6 from by omega, ArgL.d] at p6
      simp only at p0 p1 p2 p3 p4 p5 p6 hco hos
      have hHb : Hon w0 (1 + m) v (.slice so ss.length sc) lv ss (wr.alloc (.cells #[.int .i64 kind, .int .i64 who, .int .i64 oi, .int .i64 oj, .int .i64 lf, .int .i64 lt', .slice lao lbs.length lcap] 43)) := hH.up ((Below.refl _ _).alloc (Nat.le_refl _) _)
      have hOB : Blk (wr.alloc (.cells #[.int .i64 kind, .int .i64 who, .int .i64 oi, .int .i64 oj, .int .i64 lf, .int .i64 lt', .slice lao lbs.length lcap] 43)) wr.heap.size (opC kind who oi oj lf lt' (.slice lao lbs.length lcap)) 43 := heap_alloc_new wr _
      have hcs : lbs.length ≤ 140737488351232 := hco.size
      have hcn : lao = none → lbs.length = 0 ∧ lcap = 0 := hco.nil
      have hcf : From w0 lao lbs := hco.src
      have HN0 : Hid _ := hN
      clear hcell hat hok hsmall hop hH lt hN hco
      by_cases hk1 : kind = 1
      · subst hk1
        go_wp2_with fail
        clear p0 p1 p2 p3 p4 p5 p6
        generalize (wr.alloc _ : World) = wb at *
        generalize hob : wr.heap.size = ob at *
        have hown := own_any lf lt' lao lbs.length lcap lbs wb rfl hcn (by omega) (hcf.up hHb.below rfl)
        refine hown.mono ?_
        rintro e3 w3 ⟨d, rfl, hd, hb3⟩
        have hH3 := hHb.up hb3
        have hO3 : Blk w3 ob _ 43 := (hb3.block _ hOB.lt).trans hOB
        obtain ⟨dao, dcap, rfl, _, dnil, dfrom, _⟩ := own_from hd
        have hdlt : ∀ b o, dao = some ⟨b, o, none⟩ → b < w3.heap.size := fun b o e => (hd.lt b (by rw [e]; rfl)).2
        clear hown hHb hOB hb3 hd
        by_cases hroom : lv.length < 1 + m
        · have hsend := send_room w3 hH3.bag (by omega) hroom hH3.below.size lf lt' dao lbs.length dcap lbs rfl dnil (by omega) dfrom hdlt
          go_wp2_with fail
          refine hsend.mono ?_
          rintro e4 w4 ⟨rfl, v4, d4, hB4, hst4, _⟩
          have hH4 := hH3.bagStep hB4 hst4
          have hO4 := hH3.stpBlk hst4 hO3
          obtain ⟨c0, c2, c3, c4, c5, c6⟩ := blk43 hO4
          have hown2 := own_any lf lt' lao lbs.length lcap lbs w4 rfl hcn (by omega) (hcf.up hH4.below rfl)
          clear hsend hst4 hB4 dnil dfrom hdlt hO3 hH3
          go_wp2_with (first | (go_at_call 9; refine (num_any _ _).mono ?_; rintro e9 w9 ⟨rfl, rfl⟩) | fail)
          refine hown2.mono ?_
          rintro e5 w5 ⟨d5, rfl, hd5, hb5⟩
          have hH5 := hH4.up hb5
          clear hown2 hH4 hO4 hb5 c0 c2 c3 c4 c5 c6
          obtain ⟨v7', w7', hr7, hH7, _⟩ := hH5.put lf lt' d5 lbs (Dt.own (x := ⟨lf, lt', d5, lbs⟩) hd5) (by omega) 22
          have hA7 := hA.put ⟨lf, lt', d4, lbs⟩ ⟨lf, lt', d5, lbs⟩ rfl hroom hos
          obtain ⟨so', sc', rfl, _⟩ := own_slice hH7.own
          have hsl7 : (ss ++ [(⟨lf, lt', d5, lbs⟩ : LetV)]).length = ss.length + 1 := by simp
          rw [hsl7] at hr7 hH7
          have hz5 : (letC lf lt' d5).size = 3 := rfl
          clear hH5 hd5 hA
          have hln := len_any w7' hH7.bag
          rw [hA7.lens, hsl7] at hln
          have HH : Hid _ := hH7
          have HA : Hid _ := hA7
          clear hH7 hA7 hsl7
          go_wp2_with (first | (go_at_call 9; refine (num_any _ _).mono ?_; rintro e9 w9 ⟨rfl, rfl⟩) | (go_at_call 12; refine hln.mono ?_; rintro e12 w12 ⟨rfl, rfl⟩) | (at_builtin; go_must (refine wpList_append_run rfl _ _ rfl _ _ _ rfl rfl hr7 ?_)) | fail)
          go_roundw
          case rel => exact ⟨k + 1, by omega, by go_num, _, _, _, HH.out, HA.out⟩
          case measure => simp [intOf]; omega
        · have hsend := send_full w3 hH3.bag (by omega) (by omega) (.slice dao lbs.length dcap) lf lt'
          go_wp2_with fail
          refine hsend.mono ?_
          rintro e4 w4 ⟨rfl, hb4⟩
          have hH4 := hH3.up hb4
          clear hsend hb4 hH3 hO3 dnil dfrom hdlt
          have hln := len_any w4 hH4.bag
          rw [hA.lens] at hln
          have HH : Hid _ := hH4
          have HA : Hid _ := hA
          clear hH4 hA
          go_wp2_with (first | (go_at_call 9; refine (num_any _ _).mono ?_; rintro e9 w9 ⟨rfl, rfl⟩) | (go_at_call 12; refine hln.mono ?_; rintro e12 w12 ⟨rfl, rfl⟩)  | fail)
          go_roundw
          case rel => exact ⟨k + 1, by omega, by go_num, _, _, _, HH.out, HA.out⟩
          case measure => simp [intOf]; omega
      · by_cases hk4 : kind = 4
        · subst hk4
          go_wp2_with fail
          clear p0 p1 p2 p3 p4 p5 p6
          generalize (wr.alloc _ : World) = wb at *
          generalize hob : wr.heap.size = ob at *
          by_cases hv : 0 ≤ oi ∧ oi < lv.length
          · obtain ⟨ii, rfl⟩ : ∃ ii : Nat, oi = ii := ⟨oi.toNat, by omega⟩
            obtain ⟨l, hl⟩ : ∃ l, lv[ii]? = some l := ⟨lv[ii]'(by omega), List.getElem?_eq_getElem _⟩
            have hsm := hA.small l (List.mem_of_getElem? hl)
            have hatq := at_at wb hHb.bag (by omega) ii l hl (by omega)
            refine hatq.mono ?_
            rintro e3 w3 ⟨d, rfl, hd, hb3⟩
            have hH3 := hHb.up hb3
            have hO3 : Blk w3 ob _ 43 := (hb3.block _ hOB.lt).trans hOB
            have hvlt : ∀ j, v.ownBlock = some j → j < w3.heap.size := fun j hj => (hH3.bag.own.lt j hj).2
            have hblt : w0.heap.size < w3.heap.size := hH3.bag.lt
            have hall0 : (letC l.f l.t d).all (·.oneCell') = true := by
              obtain ⟨x, y, h, _⟩ := own_slice hd
              rw [h]
              simp [letC, Value.oneCell']
            have hdlt3 : ∀ j, d.ownBlock = some j → j < w3.heap.size := fun j hj => (hd.lt j hj).2
            clear hatq hHb hOB hb3
            have hBz : (w3.alloc (.cells #[.int .i64 0, .int .i64 0, .slice none 0 0] 31)).heap[w3.heap.size]? = some (.cells #[.int .i64 0, .int .i64 0, .slice none 0 0] 31 (0, 0)) := heap_alloc_new w3 _
            have hbX : Below w3.heap.size w3 ((w3.alloc (.cells #[.int .i64 0, .int .i64 0, .slice none 0 0] 31)).setRow w3.heap.size (letC l.f l.t d)) := below_setRow' ((Below.refl _ _).alloc (Nat.le_refl _) _) (Nat.le_refl _)
            have hHX := hH3.up hbX
            have hOX : Blk ((w3.alloc (.cells #[.int .i64 0, .int .i64 0, .slice none 0 0] 31)).setRow w3.heap.size (letC l.f l.t d)) ob _ 43 := (hbX.block _ hO3.lt).trans hO3
            have hBX : Blk ((w3.alloc (.cells #[.int .i64 0, .int .i64 0, .slice none 0 0] 31)).setRow w3.heap.size (letC l.f l.t d)) w3.heap.size (letC l.f l.t d) 31 := setRow_heap _ _ _ _ 31 _ hBz
            have hallX : (letC l.f l.t d).all (·.oneCell') = true := hall0
            obtain ⟨c0, c2, c3, c4, c5, c6⟩ := blk43 hOX
            have hdX : ((w3.alloc (.cells #[.int .i64 0, .int .i64 0, .slice none 0 0] 31)).setRow w3.heap.size (letC l.f l.t d)).ownsRow wb.heap.size 5 1 d l.bs.length (l.bs.map B) := ownsRow_same hd fun g hg => hbX.block g (hdlt3 g hg)
            have HV : Hid _ := hvlt
            have HDL : Hid _ := hdlt3
            have HHX : Hid _ := hHX
            have HOX : Hid _ := hOX
            have HBX : Hid _ := hBX
            have HDX : Hid _ := hdX
            clear hH3 hO3 hbX hd hall0 hvlt hdlt3 hHX hOX hBX hdX
            go_wp2_with (first | (refine wpList_store_row rfl 31 (.tmp 10) (.tmp 91) rfl w3.heap.size (letC l.f l.t d) rfl rfl 31 _ hBz (by kernel_rfl) rfl hallX ?_) | fail)
            have hvlt := HV.out
            have hdlt3 := HDL.out
            have hHX := HHX.out
            have hOX : Blk ((w3.alloc (.cells #[.int .i64 0, .int .i64 0, .slice none 0 0] 31)).setRow w3.heap.size (letC l.f l.t d)) ob _ 43 := HOX.out
            have hBX : Blk ((w3.alloc (.cells #[.int .i64 0, .int .i64 0, .slice none 0 0] 31)).setRow w3.heap.size (letC l.f l.t d)) w3.heap.size (letC l.f l.t d) 31 := HBX.out
            have hdX := HDX.out
            clear HV HDL HHX HOX HBX HDX
            generalize ((w3.alloc (.cells #[.int .i64 0, .int .i64 0, .slice none 0 0] 31)).setRow w3.heap.size (letC l.f l.t d)) = w4 at *
            clear hBz hallX
            generalize w3.heap.size = bx at *
            by_cases hroom : lv.length < 1 + m
            · have hdb := double_room w4 hHX.bag (by omega) hroom hHX.below.size ii l hl (by omega)
              refine hdb.mono ?_
              rintro e5 w5 ⟨rfl, v5, d5, hB5, hst5, _⟩
              have hH5 := hHX.bagStep hB5 hst5
              have hB5x : Blk w5 bx (letC l.f l.t d) 31 := (hst5.block bx hBX.lt (by omega) (fun e => by have := hvlt _ e; omega)).trans hBX
              have hd5 := hst5.dat hHX.bag hdX
              obtain ⟨dao, dcap, rfl, _, dnil, dfrom, _⟩ := own_from hd5
              have hown2 := own_any l.f l.t dao l.bs.length dcap l.bs w5 rfl dnil (by omega) dfrom
              clear hdb hst5 hB5 hd5 hdX hHX hOX hBX hvlt hblt hdlt3 c0 c2 c3 c4 c5 c6
              go_wp2_with (first | (go_at_call 9; refine (num_any _ _).mono ?_; rintro e9 w9 ⟨rfl, rfl⟩) | (refine wpList_load_row rfl 31 (.tmp 10) rfl bx rfl 31 _ (0, 0) _ hB5x Try.underlying31 rfl (by kernel_rfl) ?_) | fail)
              refine hown2.mono ?_
              rintro e6 w6 ⟨d6, rfl, hd6, hb6⟩
              have hH6 := hH5.up hb6
              clear hown2 hH5 hB5x hb6 dnil dfrom
              obtain ⟨v7', w7', hr7, hH7, _⟩ := hH6.put l.f l.t d6 l.bs (Dt.own (x := ⟨l.f, l.t, d6, l.bs⟩) hd6) (by omega) 22
              have hA7 := hA.put ⟨l.f, l.t, d5, l.bs⟩ ⟨l.f, l.t, d6, l.bs⟩ rfl hroom hsm
              obtain ⟨so', sc', rfl, _⟩ := own_slice hH7.own
              have hsl7 : (ss ++ [(⟨l.f, l.t, d6, l.bs⟩ : LetV)]).length = ss.length + 1 := by simp
              rw [hsl7] at hr7 hH7
              have hz5 : (letC l.f l.t d6).size = 3 := rfl
              clear hH6 hd6 hA
              have hln := len_any w7' hH7.bag
              rw [hA7.lens, hsl7] at hln
              have HH : Hid _ := hH7
              have HA : Hid _ := hA7
              clear hH7 hA7 hsl7
              go_wp2_with (first | (go_at_call 9; refine (num_any _ _).mono ?_; rintro e9 w9 ⟨rfl, rfl⟩) | (go_at_call 12; refine hln.mono ?_; rintro e12 w12 ⟨rfl, rfl⟩) | (at_builtin; go_must (refine wpList_append_run rfl _ _ rfl _ _ _ rfl rfl hr7 ?_)) | fail)
              go_roundw
              case rel => exact ⟨k + 1, by omega, by go_num, _, _, _, HH.out, HA.out⟩
              case measure => simp [intOf]; omega
            · have hdb := double_full w4 hHX.bag (by omega) (by omega) ii l hl
              refine hdb.mono ?_
              rintro e5 w5 ⟨rfl, hb5⟩
              have hH5 := hHX.up hb5
              clear hdb hb5 hdX hHX hOX hBX hvlt hblt hdlt3 c0 c2 c3 c4 c5 c6
              have hln := len_any w5 hH5.bag
              rw [hA.lens] at hln
              have HH : Hid _ := hH5
              have HA : Hid _ := hA
              clear hH5 hA
              go_wp2_with (first | (go_at_call 9; refine (num_any _ _).mono ?_; rintro e9 w9 ⟨rfl, rfl⟩) | (go_at_call 12; refine hln.mono ?_; rintro e12 w12 ⟨rfl, rfl⟩)  | fail)
              go_roundw
              case rel => exact ⟨k + 1, by omega, by go_num, _, _, _, HH.out, HA.out⟩
              case measure => simp [intOf]; omega
          · have hatq := at_no wb hHb.bag oi hv
            refine hatq.mono ?_
            rintro e3 w3 ⟨rfl, hb3⟩
            have hH3 := hHb.up hb3
            have hO3 : Blk w3 ob _ 43 := (hb3.block _ hOB.lt).trans hOB
            clear hatq hHb hOB hb3
            have hBz : (w3.alloc (.cells #[.int .i64 0, .int .i64 0, .slice none 0 0] 31)).heap[w3.heap.size]? = some (.cells #[.int .i64 0, .int .i64 0, .slice none 0 0] 31 (0, 0)) := heap_alloc_new w3 _
            have hbX : Below w3.heap.size w3 ((w3.alloc (.cells #[.int .i64 0, .int .i64 0, .slice none 0 0] 31)).setRow w3.heap.size zeroL) := below_setRow' ((Below.refl _ _).alloc (Nat.le_refl _) _) (Nat.le_refl _)
            have hHX := hH3.up hbX
            have hOX : Blk ((w3.alloc (.cells #[.int .i64 0, .int .i64 0, .slice none 0 0] 31)).setRow w3.heap.size zeroL) ob _ 43 := (hbX.block _ hO3.lt).trans hO3
            have hBX : Blk ((w3.alloc (.cells #[.int .i64 0, .int .i64 0, .slice none 0 0] 31)).setRow w3.heap.size zeroL) w3.heap.size zeroL 31 := setRow_heap _ _ _ _ 31 _ hBz
            have hallX : zeroL.all (·.oneCell') = true := by simp [zeroL, Value.oneCell']
            obtain ⟨c0, c2, c3, c4, c5, c6⟩ := blk43 hOX
            have HHX : Hid _ := hHX
            have HOX : Hid _ := hOX
            have HBX : Hid _ := hBX
            clear hH3 hO3 hbX hHX hOX hBX
            go_wp2_with (first | (refine wpList_store_row rfl 31 (.tmp 10) (.tmp 91) rfl w3.heap.size zeroL rfl rfl 31 _ hBz (by kernel_rfl) rfl hallX ?_) | fail)
            have hHX := HHX.out
            have hOX : Blk ((w3.alloc (.cells #[.int .i64 0, .int .i64 0, .slice none 0 0] 31)).setRow w3.heap.size zeroL) ob _ 43 := HOX.out
            have hBX : Blk ((w3.alloc (.cells #[.int .i64 0, .int .i64 0, .slice none 0 0] 31)).setRow w3.heap.size zeroL) w3.heap.size zeroL 31 := HBX.out
            clear HHX HOX HBX
            generalize ((w3.alloc (.cells #[.int .i64 0, .int .i64 0, .slice none 0 0] 31)).setRow w3.heap.size zeroL) = w4 at *
            clear hBz hallX
            generalize w3.heap.size = bx at *
            have hdb := double_no w4 hHX.bag oi hv
            refine hdb.mono ?_
            rintro e5 w5 ⟨rfl, rfl⟩
            clear hdb hOX hBX c0 c2 c3 c4 c5 c6
            have hln := len_any w5 hHX.bag
            rw [hA.lens] at hln
            have HH : Hid _ := hHX
            have HA : Hid _ := hA
            clear hHX hA
            go_wp2_with (first | (go_at_call 9; refine (num_any _ _).mono ?_; rintro e9 w9 ⟨rfl, rfl⟩) | (go_at_call 12; refine hln.mono ?_; rintro e12 w12 ⟨rfl, rfl⟩)  | fail)
            go_roundw
            case rel => exact ⟨k + 1, by omega, by go_num, _, _, _, HH.out, HA.out⟩
            case measure => simp [intOf]; omega
        · by_cases hk5 : kind = 5
          · subst hk5
            go_wp2_with fail
            clear p0 p1 p2 p3 p4 p5 p6
            generalize (wr.alloc _ : World) = wb at *
            generalize hob : wr.heap.size = ob at *
            by_cases hv : (0 ≤ oi ∧ oi < lv.length) ∧ (0 ≤ oj ∧ oj < lv.length)
            · obtain ⟨ii, rfl⟩ : ∃ ii : Nat, oi = ii := ⟨oi.toNat, by omega⟩
              obtain ⟨jj, rfl⟩ : ∃ jj : Nat, oj = jj := ⟨oj.toNat, by omega⟩
              obtain ⟨l, hl⟩ : ∃ l, lv[ii]? = some l := ⟨lv[ii]'(by omega), List.getElem?_eq_getElem _⟩
              have hmv := move_at wb hHb.bag (by omega) ii jj l hl (by omega)
              refine hmv.mono ?_
              rintro e3 w3 ⟨rfl, v3, hB3, hst3⟩
              have hH3 := hHb.bagStep hB3 hst3
              have hA3 := hA.move hl (j := jj) (by omega)
              clear hmv hB3 hst3 hHb hOB hA
              have hln := len_any w3 hH3.bag
              rw [hA3.lens] at hln
              have HH : Hid _ := hH3
              have HA : Hid _ := hA3
              clear hH3 hA3
              go_wp2_with (first | (go_at_call 9; refine (num_any _ _).mono ?_; rintro e9 w9 ⟨rfl, rfl⟩) | (go_at_call 12; refine hln.mono ?_; rintro e12 w12 ⟨rfl, rfl⟩)  | fail)
              go_roundw
              case rel => exact ⟨k + 1, by omega, by go_num, _, _, _, HH.out, HA.out⟩
              case measure => simp [intOf]; omega
            · have hmv := move_no wb hHb.bag oi oj hv
              refine hmv.mono ?_
              rintro e3 w3 ⟨rfl, rfl⟩
              clear hmv hOB
              have hln := len_any w3 hHb.bag
              rw [hA.lens] at hln
              have HH : Hid _ := hHb
              have HA : Hid _ := hA
              clear hHb hA
              go_wp2_with (first | (go_at_call 9; refine (num_any _ _).mono ?_; rintro e9 w9 ⟨rfl, rfl⟩) | (go_at_call 12; refine hln.mono ?_; rintro e12 w12 ⟨rfl, rfl⟩)  | fail)
              go_roundw
              case rel => exact ⟨k + 1, by omega, by go_num, _, _, _, HH.out, HA.out⟩
              case measure => simp [intOf]; omega
          · by_cases hk3 : kind = 3
            · subst hk3
              go_wp2_with fail
              clear p0 p1 p2 p3 p4 p5 p6
              generalize (wr.alloc _ : World) = wb at *
              generalize hob : wr.heap.size = ob at *
              by_cases hv : 0 ≤ oi ∧ oi < lv.length
              · obtain ⟨ii, rfl⟩ : ∃ ii : Nat, oi = ii := ⟨oi.toNat, by omega⟩
                obtain ⟨l, hl⟩ : ∃ l, lv[ii]? = some l := ⟨lv[ii]'(by omega), List.getElem?_eq_getElem _⟩
                have hsm := hA.small l (List.mem_of_getElem? hl)
                have hatq := at_at wb hHb.bag (by omega) ii l hl (by omega)
                refine hatq.mono ?_
                rintro e3 w3 ⟨d, rfl, hd, hb3⟩
                have hH3 := hHb.up hb3
                have hO3 : Blk w3 ob _ 43 := (hb3.block _ hOB.lt).trans hOB
                have hvlt : ∀ j, v.ownBlock = some j → j < w3.heap.size := fun j hj => (hH3.bag.own.lt j hj).2
                have hblt : w0.heap.size < w3.heap.size := hH3.bag.lt
                have hall0 : (letC l.f l.t d).all (·.oneCell') = true := by
                  obtain ⟨x, y, h, _⟩ := own_slice hd
                  rw [h]
                  simp [letC, Value.oneCell']
                have hdlt3 : ∀ j, d.ownBlock = some j → j < w3.heap.size := fun j hj => (hd.lt j hj).2
                clear hatq hHb hOB hb3
                have hBz : (w3.alloc (.cells #[.int .i64 0, .int .i64 0, .slice none 0 0] 31)).heap[w3.heap.size]? = some (.cells #[.int .i64 0, .int .i64 0, .slice none 0 0] 31 (0, 0)) := heap_alloc_new w3 _
                have hbX : Below w3.heap.size w3 ((w3.alloc (.cells #[.int .i64 0, .int .i64 0, .slice none 0 0] 31)).setRow w3.heap.size (letC l.f l.t d)) := below_setRow' ((Below.refl _ _).alloc (Nat.le_refl _) _) (Nat.le_refl _)
                have hHX := hH3.up hbX
                have hOX : Blk ((w3.alloc (.cells #[.int .i64 0, .int .i64 0, .slice none 0 0] 31)).setRow w3.heap.size (letC l.f l.t d)) ob _ 43 := (hbX.block _ hO3.lt).trans hO3
                have hBX : Blk ((w3.alloc (.cells #[.int .i64 0, .int .i64 0, .slice none 0 0] 31)).setRow w3.heap.size (letC l.f l.t d)) w3.heap.size (letC l.f l.t d) 31 := setRow_heap _ _ _ _ 31 _ hBz
                have hallX : (letC l.f l.t d).all (·.oneCell') = true := hall0
                obtain ⟨c0, c2, c3, c4, c5, c6⟩ := blk43 hOX
                have hdX : ((w3.alloc (.cells #[.int .i64 0, .int .i64 0, .slice none 0 0] 31)).setRow w3.heap.size (letC l.f l.t d)).ownsRow wb.heap.size 5 1 d l.bs.length (l.bs.map B) := ownsRow_same hd fun g hg => hbX.block g (hdlt3 g hg)
                have HV : Hid _ := hvlt
                have HDL : Hid _ := hdlt3
                have HHX : Hid _ := hHX
                have HOX : Hid _ := hOX
                have HBX : Hid _ := hBX
                have HDX : Hid _ := hdX
                clear hH3 hO3 hbX hd hall0 hvlt hdlt3 hHX hOX hBX hdX
                go_wp2_with (first | (refine wpList_store_row rfl 31 (.tmp 12) (.tmp 123) rfl w3.heap.size (letC l.f l.t d) rfl rfl 31 _ hBz (by kernel_rfl) rfl hallX ?_) | fail)
                have hvlt := HV.out
                have hdlt3 := HDL.out
                have hHX := HHX.out
                have hOX : Blk ((w3.alloc (.cells #[.int .i64 0, .int .i64 0, .slice none 0 0] 31)).setRow w3.heap.size (letC l.f l.t d)) ob _ 43 := HOX.out
                have hBX : Blk ((w3.alloc (.cells #[.int .i64 0, .int .i64 0, .slice none 0 0] 31)).setRow w3.heap.size (letC l.f l.t d)) w3.heap.size (letC l.f l.t d) 31 := HBX.out
                have hdX := HDX.out
                clear HV HDL HHX HOX HBX HDX
                generalize ((w3.alloc (.cells #[.int .i64 0, .int .i64 0, .slice none 0 0] 31)).setRow w3.heap.size (letC l.f l.t d)) = w4 at *
                clear hBz hallX
                generalize w3.heap.size = bx at *
                have hdr := drop_at w4 hHX.bag (by omega) ii l hl
                refine hdr.mono ?_
                rintro e5 w5 ⟨rfl, v5, hB5, hst5⟩
                have hH5 := hHX.bagStep hB5 hst5
                have hB5x : Blk w5 bx (letC l.f l.t d) 31 := (hst5.block bx hBX.lt (by omega) (fun e => by have := hvlt _ e; omega)).trans hBX
                have hd5 := hst5.dat hHX.bag hdX
                obtain ⟨dao, dcap, rfl, _, dnil, dfrom, _⟩ := own_from hd5
                clear hdr hst5 hB5 hd5 hdX hHX hOX hBX hvlt hblt hdlt3 c0 c2 c3 c4 c5 c6
                have hfind := find_any w0.heap.size (.slice so ss.length sc) ss w5 hH5.own hH5.dat (by omega) l.f l.t dao l.bs.length dcap l.bs rfl dfrom
                go_wp2_with (first | (go_at_call 9; refine (num_any _ _).mono ?_; rintro e9 w9 ⟨rfl, rfl⟩) | (refine wpList_load_row rfl 31 (.tmp 12) rfl bx rfl 31 _ (0, 0) _ hB5x Try.underlying31 rfl (by kernel_rfl) ?_) | fail)
                refine hfind.mono ?_
                rintro e7 w7 ⟨hb7, r, rfl, hfound⟩
                have hH7 := hH5.up hb7
                obtain ⟨a, y, rfl, hy, hyk⟩ : ∃ a y, r = ((a : Nat) : Int) ∧ ss[a]? = some y ∧ y.k = l.k := by
                  rcases hfound with ⟨a, y, h1, h2, h3⟩ | ⟨_, h2⟩
                  · exact ⟨a, y, h1, h2, h3⟩
                  · obtain ⟨y, hy, hyk⟩ := hA.has (List.mem_of_getElem? hl)
                    exact absurd hyk (h2 y hy)
                have hal := (List.getElem?_eq_some_iff.1 hy).1
                have ha0 : ¬ (((a : Nat) : Int) < 0) := by omega
                obtain ⟨g, cap7, hv7, hcap7, hstep⟩ := hH7.cut a y hy (by omega)
                cases hv7
                have hA8 := hA.cut hl hy hyk.symm
                clear hfind hb7 hfound hH7 hH5 hA hB5x dnil dfrom
                go_wp2_with (first | (go_at_call 9; refine (num_any _ _).mono ?_; rintro e9 w9 ⟨rfl, rfl⟩) | fail)
                rename_i hK hextra
                refine wp_region_mix (fun _ => True) (fun i => i == 7 || i == 9) 9 (by kernel_rfl) rfl (by kernel_rfl) (by kernel_rfl) (by kernel_rfl) ?_
                obtain ⟨w8, hrun8, hH8, hG8⟩ := hstep ({ w9 with drawn := w9.drawn + 1 } : World) (fun _ => rfl) rfl rfl rfl rfl
                generalize ({ w9 with drawn := w9.drawn + 1 } : World) = W7 at *
                have hC : True := trivial
                refine withFrP (N := 220) rfl ?_
                intro f0 F0 hff
                have hs7 : f0 7 = Value.slice (some ⟨g, 0, none⟩) ss.length sc := hff 7
                have hsx : f0 17 = Value.int .i64 (a : Nat) := hff 17
                clear hff
                refine lyp F0 rfl hC rfl (by omega) (wanted_none rfl) (v := Value.slice (some ⟨g, 0, none⟩) ss.length sc) (fun wr hwr => by simp only [execOp, (F0.eval 7 (by omega)).trans (show _ = Value.slice (some ⟨g, 0, none⟩) ss.length sc from by simp [upd, hs7, hsx])]; first | rfl | simp [go_sem]) fun F1 => ?_
                refine lyp F1 rfl hC rfl (by omega) (wanted_none rfl) (v := Value.int .i64 (a : Nat)) (fun wr hwr => by simp only [execOp, (F1.eval 17 (by omega)).trans (show _ = Value.int .i64 (a : Nat) from by simp [upd, hs7, hsx])]; first | rfl | simp [go_sem]) fun F2 => ?_
                refine lyp F2 rfl hC rfl (by omega) (wanted_none rfl) (v := Value.slice (some ⟨g, 0, none⟩) a sc) (fun wr hwr => by simp only [execOp, Option.map_some, Option.map_none, (F2.eval 170 (by omega)).trans (show _ = Value.slice (some ⟨g, 0, none⟩) ss.length sc from by simp [upd, hs7, hsx]), (F2.eval 171 (by omega)).trans (show _ = Value.int .i64 (a : Nat) from by simp [upd, hs7, hsx]), Sem.run_bind, slice_to g ss.length sc a (by omega) wr, Result.andThen_ok, Sem.run_pure]) fun F3 => ?_
                refine lyp F3 rfl hC rfl (by omega) (wanted_none rfl) (v := Value.slice (some ⟨g, 0, none⟩) ss.length sc) (fun wr hwr => by simp only [execOp, (F3.eval 7 (by omega)).trans (show _ = Value.slice (some ⟨g, 0, none⟩) ss.length sc from by simp [upd, hs7, hsx])]; first | rfl | simp [go_sem]) fun F4 => ?_
                refine lyp F4 rfl hC rfl (by omega) (wanted_none rfl) (v := Value.int .i64 (a : Nat)) (fun wr hwr => by simp only [execOp, (F4.eval 17 (by omega)).trans (show _ = Value.int .i64 (a : Nat) from by simp [upd, hs7, hsx])]; first | rfl | simp [go_sem]) fun F5 => ?_
                refine lyp F5 rfl hC rfl (by omega) (wanted_none rfl) (v := Value.int .i64 ((a + 1 : Nat) : Int)) (fun wr hwr => by simp only [execOp, (F5.eval 174 (by omega)).trans (show _ = Value.int .i64 (a : Nat) from by simp [upd, hs7, hsx])]; simp [go_sem, Act.eval]; rw [IntKind.wrap_i64]; omega) fun F6 => ?_
                refine lyp F6 rfl hC rfl (by omega) (wanted_none rfl) (v := from_ g ss.length sc (a + 1)) (fun wr hwr => by simp only [execOp, Option.map_some, Option.map_none, (F6.eval 173 (by omega)).trans (show _ = Value.slice (some ⟨g, 0, none⟩) ss.length sc from by simp [upd, hs7, hsx]), (F6.eval 175 (by omega)).trans (show _ = Value.int .i64 ((a + 1 : Nat) : Int) from by simp [upd, hs7, hsx]), Sem.run_bind, slice_from g ss.length sc (a + 1) (by omega) hcap7 wr, Result.andThen_ok, Sem.run_pure]) fun F7 => ?_
                refine lep F7 rfl hC rfl (by omega) (wanted_none rfl) (v := Value.slice (some ⟨g, 0, none⟩) (ss.eraseIdx a).length sc) (w1 := w8) (by simp only [execOp, resolve, invoke, builtin, Sem.run_bind, Sem.run_pure, Result.andThen_ok, List.map_toArray, List.map_cons, List.map_nil, (F7.eval 172 (by omega)).trans (show _ = Value.slice (some ⟨g, 0, none⟩) a sc from by simp [upd, hs7, hsx]), (F7.eval 176 (by omega)).trans (show _ = from_ g ss.length sc (a + 1) from by simp [upd, hs7, hsx]), hrun8]) fun F8 => ?_
                refine lyp F8 rfl hC rfl (by omega) (wanted_none rfl) (v := Value.slice (some ⟨g, 0, none⟩) (ss.eraseIdx a).length sc) (fun wr hwr => by simp only [execOp, (F8.eval 177 (by omega)).trans (show _ = Value.slice (some ⟨g, 0, none⟩) (ss.eraseIdx a).length sc from by simp [upd, hs7, hsx])]; first | rfl | simp [go_sem]) fun F9 => ?_
                refine ⟨fun _ => trivial, ?_⟩
                clear F0 F1 F2 F3 F4 F5 F6 F7 F8 F9 hs7 hsx hrun8 hstep
                refine hK _ _ ?_
                simp only [Act.put, List.setIfInBounds_toArray, List.set_cons_succ, List.set_cons_zero]
                have hH9 := hH8
                clear hG8 hH8
                have hln := len_any w8 hH9.bag
                rw [hA8.lens] at hln
                have HH : Hid _ := hH9
                have HA : Hid _ := hA8
                clear hH9 hA8
                go_wp2_with (first | (go_at_call 9; refine (num_any _ _).mono ?_; rintro e9 w9 ⟨rfl, rfl⟩) | (go_at_call 12; refine hln.mono ?_; rintro e12 w12 ⟨rfl, rfl⟩)  | fail)
                go_roundw
                case rel => exact ⟨k + 1, by omega, by go_num, _, _, _, HH.out, HA.out⟩
                case measure => simp [intOf]; omega
              · have hatq := at_no wb hHb.bag oi hv
                refine hatq.mono ?_
                rintro e3 w3 ⟨rfl, hb3⟩
                have hH3 := hHb.up hb3
                have hO3 : Blk w3 ob _ 43 := (hb3.block _ hOB.lt).trans hOB
                clear hatq hHb hOB hb3
                have hBz : (w3.alloc (.cells #[.int .i64 0, .int .i64 0, .slice none 0 0] 31)).heap[w3.heap.size]? = some (.cells #[.int .i64 0, .int .i64 0, .slice none 0 0] 31 (0, 0)) := heap_alloc_new w3 _
                have hbX : Below w3.heap.size w3 ((w3.alloc (.cells #[.int .i64 0, .int .i64 0, .slice none 0 0] 31)).setRow w3.heap.size zeroL) := below_setRow' ((Below.refl _ _).alloc (Nat.le_refl _) _) (Nat.le_refl _)
                have hHX := hH3.up hbX
                have hOX : Blk ((w3.alloc (.cells #[.int .i64 0, .int .i64 0, .slice none 0 0] 31)).setRow w3.heap.size zeroL) ob _ 43 := (hbX.block _ hO3.lt).trans hO3
                have hBX : Blk ((w3.alloc (.cells #[.int .i64 0, .int .i64 0, .slice none 0 0] 31)).setRow w3.heap.size zeroL) w3.heap.size zeroL 31 := setRow_heap _ _ _ _ 31 _ hBz
                have hallX : zeroL.all (·.oneCell') = true := by simp [zeroL, Value.oneCell']
                obtain ⟨c0, c2, c3, c4, c5, c6⟩ := blk43 hOX
                have HHX : Hid _ := hHX
                have HOX : Hid _ := hOX
                have HBX : Hid _ := hBX
                clear hH3 hO3 hbX hHX hOX hBX
                go_wp2_with (first | (refine wpList_store_row rfl 31 (.tmp 12) (.tmp 123) rfl w3.heap.size zeroL rfl rfl 31 _ hBz (by kernel_rfl) rfl hallX ?_) | fail)
                have hHX := HHX.out
                have hOX : Blk ((w3.alloc (.cells #[.int .i64 0, .int .i64 0, .slice none 0 0] 31)).setRow w3.heap.size zeroL) ob _ 43 := HOX.out
                have hBX : Blk ((w3.alloc (.cells #[.int .i64 0, .int .i64 0, .slice none 0 0] 31)).setRow w3.heap.size zeroL) w3.heap.size zeroL 31 := HBX.out
                clear HHX HOX HBX
                generalize ((w3.alloc (.cells #[.int .i64 0, .int .i64 0, .slice none 0 0] 31)).setRow w3.heap.size zeroL) = w4 at *
                clear hBz hallX
                generalize w3.heap.size = bx at *
                have hdr := drop_no w4 hHX.bag oi hv
                refine hdr.mono ?_
                rintro e5 w5 ⟨rfl, hb5⟩
                have hH5 := hHX.up hb5
                have hB5x : Blk w5 bx zeroL 31 := (hb5.block _ hBX.lt).trans hBX
                clear hdr hb5 hHX hOX hBX c0 c2 c3 c4 c5 c6
                have hfind := find_any w0.heap.size (.slice so ss.length sc) ss w5 hH5.own hH5.dat (by omega) 0 0 none 0 0 [] rfl (fun h => by simp at h)
                go_wp2_with (first | (go_at_call 9; refine (num_any _ _).mono ?_; rintro e9 w9 ⟨rfl, rfl⟩) | (refine wpList_load_row rfl 31 (.tmp 12) rfl bx rfl 31 zeroL (0, 0) _ hB5x Try.underlying31 rfl (by kernel_rfl) ?_) | fail)
                refine hfind.mono ?_
                rintro e7 w7 ⟨hb7, r, rfl, _⟩
                have hH7 := hH5.up hb7
                clear hfind hb7 hH5 hB5x
                have hln := len_any w7 hH7.bag
                rw [hA.lens] at hln
                have HH : Hid _ := hH7
                have HA : Hid _ := hA
                clear hH7 hA
                go_wp2_with (first | (go_at_call 9; refine (num_any _ _).mono ?_; rintro e9 w9 ⟨rfl, rfl⟩) | (go_at_call 12; refine hln.mono ?_; rintro e12 w12 ⟨rfl, rfl⟩)  | fail)
                go_roundw
                case rel => exact ⟨k + 1, by omega, by go_num, _, _, _, HH.out, HA.out⟩
                case measure => simp [intOf]; omega
            · by_cases hk2 : kind = 2
              · subst hk2
                go_wp2_with fail
                clear p0 p1 p2 p3 p4 p5 p6
                generalize (wr.alloc _ : World) = wb at *
                generalize hob : wr.heap.size = ob at *
                by_cases hv : 0 ≤ oi ∧ oi < lv.length
                · obtain ⟨ii, rfl⟩ : ∃ ii : Nat, oi = ii := ⟨oi.toNat, by omega⟩
                  obtain ⟨l, hl⟩ : ∃ l, lv[ii]? = some l := ⟨lv[ii]'(by omega), List.getElem?_eq_getElem _⟩
                  have hsm := hA.small l (List.mem_of_getElem? hl)
                  have hatq := at_at wb hHb.bag (by omega) ii l hl (by omega)
                  refine hatq.mono ?_
                  rintro e3 w3 ⟨d, rfl, hd, hb3⟩
                  have hH3 := hHb.up hb3
                  have hO3 : Blk w3 ob _ 43 := (hb3.block _ hOB.lt).trans hOB
                  have hvlt : ∀ j, v.ownBlock = some j → j < w3.heap.size := fun j hj => (hH3.bag.own.lt j hj).2
                  have hblt : w0.heap.size < w3.heap.size := hH3.bag.lt
                  have hall0 : (letC l.f l.t d).all (·.oneCell') = true := by
                    obtain ⟨x, y, h, _⟩ := own_slice hd
                    rw [h]
                    simp [letC, Value.oneCell']
                  have hdlt3 : ∀ j, d.ownBlock = some j → j < w3.heap.size := fun j hj => (hd.lt j hj).2
                  clear hatq hHb hOB hb3
                  have hBz : (w3.alloc (.cells #[.int .i64 0, .int .i64 0, .slice none 0 0] 31)).heap[w3.heap.size]? = some (.cells #[.int .i64 0, .int .i64 0, .slice none 0 0] 31 (0, 0)) := heap_alloc_new w3 _
                  have hbX : Below w3.heap.size w3 ((w3.alloc (.cells #[.int .i64 0, .int .i64 0, .slice none 0 0] 31)).setRow w3.heap.size (letC l.f l.t d)) := below_setRow' ((Below.refl _ _).alloc (Nat.le_refl _) _) (Nat.le_refl _)
                  have hHX := hH3.up hbX
                  have hOX : Blk ((w3.alloc (.cells #[.int .i64 0, .int .i64 0, .slice none 0 0] 31)).setRow w3.heap.size (letC l.f l.t d)) ob _ 43 := (hbX.block _ hO3.lt).trans hO3
                  have hBX : Blk ((w3.alloc (.cells #[.int .i64 0, .int .i64 0, .slice none 0 0] 31)).setRow w3.heap.size (letC l.f l.t d)) w3.heap.size (letC l.f l.t d) 31 := setRow_heap _ _ _ _ 31 _ hBz
                  have hallX : (letC l.f l.t d).all (·.oneCell') = true := hall0
                  obtain ⟨c0, c2, c3, c4, c5, c6⟩ := blk43 hOX
                  have hdX : ((w3.alloc (.cells #[.int .i64 0, .int .i64 0, .slice none 0 0] 31)).setRow w3.heap.size (letC l.f l.t d)).ownsRow wb.heap.size 5 1 d l.bs.length (l.bs.map B) := ownsRow_same hd fun g hg => hbX.block g (hdlt3 g hg)
                  have HV : Hid _ := hvlt
                  have HDL : Hid _ := hdlt3
                  have HHX : Hid _ := hHX
                  have HOX : Hid _ := hOX
                  have HBX : Hid _ := hBX
                  have HDX : Hid _ := hdX
                  clear hH3 hO3 hbX hd hall0 hvlt hdlt3 hHX hOX hBX hdX
                  go_wp2_with (first | (refine wpList_store_row rfl 31 (.tmp 12) (.tmp 123) rfl w3.heap.size (letC l.f l.t d) rfl rfl 31 _ hBz (by kernel_rfl) rfl hallX ?_) | fail)
                  have hvlt := HV.out
                  have hdlt3 := HDL.out
                  have hHX := HHX.out
                  have hOX : Blk ((w3.alloc (.cells #[.int .i64 0, .int .i64 0, .slice none 0 0] 31)).setRow w3.heap.size (letC l.f l.t d)) ob _ 43 := HOX.out
                  have hBX : Blk ((w3.alloc (.cells #[.int .i64 0, .int .i64 0, .slice none 0 0] 31)).setRow w3.heap.size (letC l.f l.t d)) w3.heap.size (letC l.f l.t d) 31 := HBX.out
                  have hdX := HDX.out
                  clear HV HDL HHX HOX HBX HDX
                  generalize ((w3.alloc (.cells #[.int .i64 0, .int .i64 0, .slice none 0 0] 31)).setRow w3.heap.size (letC l.f l.t d)) = w4 at *
                  clear hBz hallX
                  generalize w3.heap.size = bx at *
                  have hdr := deliver_at w4 hHX.bag (by omega) ii l hl
                  refine hdr.mono ?_
                  rintro e5 w5 ⟨rfl, v5, hB5, hst5⟩
                  have hH5 := hHX.bagStep hB5 hst5
                  have hB5x : Blk w5 bx (letC l.f l.t d) 31 := (hst5.block bx hBX.lt (by omega) (fun e => by have := hvlt _ e; omega)).trans hBX
                  have hd5 := hst5.dat hHX.bag hdX
                  have hdl5 := hst5.dat hHX.bag (hHX.bag.dat l (List.mem_of_getElem? hl))
                  clear hdr hst5 hB5 hdX hHX hOX hBX hvlt hblt hdlt3 c0 c2 c3 c4 c5 c6
                  have hBz : (w5.alloc (.cells #[.int .i64 0, .int .i64 0, .slice none 0 0] 31)).heap[w5.heap.size]? = some (.cells #[.int .i64 0, .int .i64 0, .slice none 0 0] 31 (0, 0)) := heap_alloc_new w5 _
                  have hb6 : Below w5.heap.size w5 ((w5.alloc (.cells #[.int .i64 0, .int .i64 0, .slice none 0 0] 31)).setRow w5.heap.size l.c) := below_setRow' ((Below.refl _ _).alloc (Nat.le_refl _) _) (Nat.le_refl _)
                  have hH6 := hH5.up hb6
                  have hB6x : Blk ((w5.alloc (.cells #[.int .i64 0, .int .i64 0, .slice none 0 0] 31)).setRow w5.heap.size l.c) bx (letC l.f l.t d) 31 := (hb6.block _ hB5x.lt).trans hB5x
                  have hB6y : Blk ((w5.alloc (.cells #[.int .i64 0, .int .i64 0, .slice none 0 0] 31)).setRow w5.heap.size l.c) w5.heap.size l.c 31 := setRow_heap _ _ _ _ 31 _ hBz
                  have hd6 : ((w5.alloc (.cells #[.int .i64 0, .int .i64 0, .slice none 0 0] 31)).setRow w5.heap.size l.c).ownsRow wb.heap.size 5 1 d l.bs.length (l.bs.map B) := ownsRow_same hd5 fun g hg => hb6.block g (hd5.lt g hg).2
                  have hdl6 : ((w5.alloc (.cells #[.int .i64 0, .int .i64 0, .slice none 0 0] 31)).setRow w5.heap.size l.c).ownsRow w0.heap.size 5 1 l.d l.bs.length (l.bs.map B) := ownsRow_same hdl5 fun g hg => hb6.block g (hdl5.lt g hg).2
                  have hallX : l.c.all (·.oneCell') = true := by
                    obtain ⟨p, q, h, _⟩ := own_slice hdl5
                    simp [LetV.c, letC, h, Value.oneCell']
                  obtain ⟨dao, dcap, rfl, _, dnil, dfrom, _⟩ := own_from hd6
                  have halk : Calls Try.prog 14 #[.agg l.c, .agg (letC l.f l.t (.slice dao l.bs.length dcap))] ((w5.alloc (.cells #[.int .i64 0, .int .i64 0, .slice none 0 0] 31)).setRow w5.heap.size l.c) fun e w' => e = .returned (.bool true) ∧ Below ((w5.alloc (.cells #[.int .i64 0, .int .i64 0, .slice none 0 0] 31)).setRow w5.heap.size l.c).heap.size ((w5.alloc (.cells #[.int .i64 0, .int .i64 0, .slice none 0 0] 31)).setRow w5.heap.size l.c) w' := by
                    obtain ⟨lao2, lcap2, hld2, _, _, hlf2, _⟩ := own_from hdl6
                    have h1 := alike_any l.f l.t l.f l.t lao2 dao l.bs.length l.bs.length lcap2 dcap l.bs l.bs _ rfl rfl hlf2 dfrom
                    rw [show alikeB l.f l.t l.bs l.f l.t l.bs = true from by simp [alikeB], ← hld2] at h1
                    exact h1
                  clear hH5 hd5 hdl5 hb6 hB5x hdl6
                  go_wp2_with (first | (refine wpList_store_row rfl 31 (.tmp 15) (.tmp 138) rfl w5.heap.size l.c rfl rfl 31 _ hBz (by kernel_rfl) rfl hallX ?_) | (go_at_call 9; refine (num_any _ _).mono ?_; rintro e9 w9 ⟨rfl, rfl⟩) | (refine load_row_g 31 (.tmp 15) rfl (by rfl) w5.heap.size rfl 31 l.c (0, 0) _ hB6y Try.underlying31 (by kernel_rfl) ?_) | (refine load_row_g 31 (.tmp 12) rfl (by rfl) bx rfl 31 (letC l.f l.t (.slice dao l.bs.length dcap)) (0, 0) _ hB6x Try.underlying31 (by kernel_rfl) ?_) | fail)
                  generalize ((w5.alloc (.cells #[.int .i64 0, .int .i64 0, .slice none 0 0] 31)).setRow w5.heap.size l.c) = w6 at *
                  refine halk.mono ?_
                  rintro e6 w6b ⟨rfl, hb6b⟩
                  have hH6b := hH6.up hb6b
                  have hB6z : Blk w6b bx (letC l.f l.t (.slice dao l.bs.length dcap)) 31 := (hb6b.block _ hB6x.lt).trans hB6x
                  have dfrom : From w6b dao l.bs := dfrom.up hb6b rfl
                  clear halk hb6b hH6 hB6x hB6y hd6 hBz hallX
                  have hfind := find_any w0.heap.size (.slice so ss.length sc) ss w6b hH6b.own hH6b.dat (by omega) l.f l.t dao l.bs.length dcap l.bs rfl dfrom
                  go_wp2_with (first | (go_at_call 9; refine (num_any _ _).mono ?_; rintro e9 w9 ⟨rfl, rfl⟩) | (refine wpList_load_row rfl 31 (.tmp 12) rfl bx rfl 31 _ (0, 0) _ hB6z Try.underlying31 rfl (by kernel_rfl) ?_) | fail)
                  refine hfind.mono ?_
                  rintro e7 w7 ⟨hb7, r, rfl, hfound⟩
                  have hH7 := hH6b.up hb7
                  obtain ⟨a, y, rfl, hy, hyk⟩ : ∃ a y, r = ((a : Nat) : Int) ∧ ss[a]? = some y ∧ y.k = l.k := by
                    rcases hfound with ⟨a, y, h1, h2, h3⟩ | ⟨_, h2⟩
                    · exact ⟨a, y, h1, h2, h3⟩
                    · obtain ⟨y, hy, hyk⟩ := hA.has (List.mem_of_getElem? hl)
                      exact absurd hyk (h2 y hy)
                  have hal := (List.getElem?_eq_some_iff.1 hy).1
                  have ha0 : ¬ (((a : Nat) : Int) < 0) := by omega
                  obtain ⟨g, cap7, hv7, hcap7, hstep⟩ := hH7.cut a y hy (by omega)
                  cases hv7
                  have hA8 := hA.cut hl hy hyk.symm
                  clear hfind hb7 hfound hH7 hH6b hA hB6z dnil dfrom
                  go_wp2_with (first | (go_at_call 9; refine (num_any _ _).mono ?_; rintro e9 w9 ⟨rfl, rfl⟩) | fail)
                  rename_i hK hextra
                  refine wp_region_mix (fun _ => True) (fun i => i == 7 || i == 9) 9 (by kernel_rfl) rfl (by kernel_rfl) (by kernel_rfl) (by kernel_rfl) ?_
                  obtain ⟨w8, hrun8, hH8, hG8⟩ := hstep ({ w9 with drawn := w9.drawn + 1 } : World) (fun _ => rfl) rfl rfl rfl rfl
                  generalize ({ w9 with drawn := w9.drawn + 1 } : World) = W7 at *
                  have hC : True := trivial
                  refine withFrP (N := 220) rfl ?_
                  intro f0 F0 hff
                  have hs7 : f0 7 = Value.slice (some ⟨g, 0, none⟩) ss.length sc := hff 7
                  have hsx : f0 17 = Value.int .i64 (a : Nat) := hff 17
                  clear hff
                  refine lyp F0 rfl hC rfl (by omega) (wanted_none rfl) (v := Value.slice (some ⟨g, 0, none⟩) ss.length sc) (fun wr hwr => by simp only [execOp, (F0.eval 7 (by omega)).trans (show _ = Value.slice (some ⟨g, 0, none⟩) ss.length sc from by simp [upd, hs7, hsx])]; first | rfl | simp [go_sem]) fun F1 => ?_
                  refine lyp F1 rfl hC rfl (by omega) (wanted_none rfl) (v := Value.int .i64 (a : Nat)) (fun wr hwr => by simp only [execOp, (F1.eval 17 (by omega)).trans (show _ = Value.int .i64 (a : Nat) from by simp [upd, hs7, hsx])]; first | rfl | simp [go_sem]) fun F2 => ?_
                  refine lyp F2 rfl hC rfl (by omega) (wanted_none rfl) (v := Value.slice (some ⟨g, 0, none⟩) a sc) (fun wr hwr => by simp only [execOp, Option.map_some, Option.map_none, (F2.eval 170 (by omega)).trans (show _ = Value.slice (some ⟨g, 0, none⟩) ss.length sc from by simp [upd, hs7, hsx]), (F2.eval 171 (by omega)).trans (show _ = Value.int .i64 (a : Nat) from by simp [upd, hs7, hsx]), Sem.run_bind, slice_to g ss.length sc a (by omega) wr, Result.andThen_ok, Sem.run_pure]) fun F3 => ?_
                  refine lyp F3 rfl hC rfl (by omega) (wanted_none rfl) (v := Value.slice (some ⟨g, 0, none⟩) ss.length sc) (fun wr hwr => by simp only [execOp, (F3.eval 7 (by omega)).trans (show _ = Value.slice (some ⟨g, 0, none⟩) ss.length sc from by simp [upd, hs7, hsx])]; first | rfl | simp [go_sem]) fun F4 => ?_
                  refine lyp F4 rfl hC rfl (by omega) (wanted_none rfl) (v := Value.int .i64 (a : Nat)) (fun wr hwr => by simp only [execOp, (F4.eval 17 (by omega)).trans (show _ = Value.int .i64 (a : Nat) from by simp [upd, hs7, hsx])]; first | rfl | simp [go_sem]) fun F5 => ?_
                  refine lyp F5 rfl hC rfl (by omega) (wanted_none rfl) (v := Value.int .i64 ((a + 1 : Nat) : Int)) (fun wr hwr => by simp only [execOp, (F5.eval 174 (by omega)).trans (show _ = Value.int .i64 (a : Nat) from by simp [upd, hs7, hsx])]; simp [go_sem, Act.eval]; rw [IntKind.wrap_i64]; omega) fun F6 => ?_
                  refine lyp F6 rfl hC rfl (by omega) (wanted_none rfl) (v := from_ g ss.length sc (a + 1)) (fun wr hwr => by simp only [execOp, Option.map_some, Option.map_none, (F6.eval 173 (by omega)).trans (show _ = Value.slice (some ⟨g, 0, none⟩) ss.length sc from by simp [upd, hs7, hsx]), (F6.eval 175 (by omega)).trans (show _ = Value.int .i64 ((a + 1 : Nat) : Int) from by simp [upd, hs7, hsx]), Sem.run_bind, slice_from g ss.length sc (a + 1) (by omega) hcap7 wr, Result.andThen_ok, Sem.run_pure]) fun F7 => ?_
                  refine lep F7 rfl hC rfl (by omega) (wanted_none rfl) (v := Value.slice (some ⟨g, 0, none⟩) (ss.eraseIdx a).length sc) (w1 := w8) (by simp only [execOp, resolve, invoke, builtin, Sem.run_bind, Sem.run_pure, Result.andThen_ok, List.map_toArray, List.map_cons, List.map_nil, (F7.eval 172 (by omega)).trans (show _ = Value.slice (some ⟨g, 0, none⟩) a sc from by simp [upd, hs7, hsx]), (F7.eval 176 (by omega)).trans (show _ = from_ g ss.length sc (a + 1) from by simp [upd, hs7, hsx]), hrun8]) fun F8 => ?_
                  refine lyp F8 rfl hC rfl (by omega) (wanted_none rfl) (v := Value.slice (some ⟨g, 0, none⟩) (ss.eraseIdx a).length sc) (fun wr hwr => by simp only [execOp, (F8.eval 177 (by omega)).trans (show _ = Value.slice (some ⟨g, 0, none⟩) (ss.eraseIdx a).length sc from by simp [upd, hs7, hsx])]; first | rfl | simp [go_sem]) fun F9 => ?_
                  refine ⟨fun _ => trivial, ?_⟩
                  clear F0 F1 F2 F3 F4 F5 F6 F7 F8 F9 hs7 hsx hrun8 hstep
                  refine hK _ _ ?_
                  simp only [Act.put, List.setIfInBounds_toArray, List.set_cons_succ, List.set_cons_zero]
                  have hH9 := hH8
                  clear hG8 hH8
                  have hln := len_any w8 hH9.bag
                  rw [hA8.lens] at hln
                  have HH : Hid _ := hH9
                  have HA : Hid _ := hA8
                  clear hH9 hA8
                  go_wp2_with (first | (go_at_call 9; refine (num_any _ _).mono ?_; rintro e9 w9 ⟨rfl, rfl⟩) | (go_at_call 12; refine hln.mono ?_; rintro e12 w12 ⟨rfl, rfl⟩)  | fail)
                  go_roundw
                  case rel => exact ⟨k + 1, by omega, by go_num, _, _, _, HH.out, HA.out⟩
                  case measure => simp [intOf]; omega
                · have hatq := at_no wb hHb.bag oi hv
                  refine hatq.mono ?_
                  rintro e3 w3 ⟨rfl, hb3⟩
                  have hH3 := hHb.up hb3
                  have hO3 : Blk w3 ob _ 43 := (hb3.block _ hOB.lt).trans hOB
                  clear hatq hHb hOB hb3
                  have hBz : (w3.alloc (.cells #[.int .i64 0, .int .i64 0, .slice none 0 0] 31)).heap[w3.heap.size]? = some (.cells #[.int .i64 0, .int .i64 0, .slice none 0 0] 31 (0, 0)) := heap_alloc_new w3 _
                  have hbX : Below w3.heap.size w3 ((w3.alloc (.cells #[.int .i64 0, .int .i64 0, .slice none 0 0] 31)).setRow w3.heap.size zeroL) := below_setRow' ((Below.refl _ _).alloc (Nat.le_refl _) _) (Nat.le_refl _)
                  have hHX := hH3.up hbX
                  have hOX : Blk ((w3.alloc (.cells #[.int .i64 0, .int .i64 0, .slice none 0 0] 31)).setRow w3.heap.size zeroL) ob _ 43 := (hbX.block _ hO3.lt).trans hO3
                  have hBX : Blk ((w3.alloc (.cells #[.int .i64 0, .int .i64 0, .slice none 0 0] 31)).setRow w3.heap.size zeroL) w3.heap.size zeroL 31 := setRow_heap _ _ _ _ 31 _ hBz
                  have hallX : zeroL.all (·.oneCell') = true := by simp [zeroL, Value.oneCell']
                  obtain ⟨c0, c2, c3, c4, c5, c6⟩ := blk43 hOX
                  have HHX : Hid _ := hHX
                  have HOX : Hid _ := hOX
                  have HBX : Hid _ := hBX
                  clear hH3 hO3 hbX hHX hOX hBX
                  go_wp2_with (first | (refine wpList_store_row rfl 31 (.tmp 12) (.tmp 123) rfl w3.heap.size zeroL rfl rfl 31 _ hBz (by kernel_rfl) rfl hallX ?_) | fail)
                  have hHX := HHX.out
                  have hOX : Blk ((w3.alloc (.cells #[.int .i64 0, .int .i64 0, .slice none 0 0] 31)).setRow w3.heap.size zeroL) ob _ 43 := HOX.out
                  have hBX : Blk ((w3.alloc (.cells #[.int .i64 0, .int .i64 0, .slice none 0 0] 31)).setRow w3.heap.size zeroL) w3.heap.size zeroL 31 := HBX.out
                  clear HHX HOX HBX
                  generalize ((w3.alloc (.cells #[.int .i64 0, .int .i64 0, .slice none 0 0] 31)).setRow w3.heap.size zeroL) = w4 at *
                  clear hBz hallX
                  generalize w3.heap.size = bx at *
                  have hdr := deliver_no w4 hHX.bag oi hv
                  refine hdr.mono ?_
                  rintro e5 w5 ⟨rfl, hb5⟩
                  have hH5a := hHX.up hb5
                  have hB5a : Blk w5 bx zeroL 31 := (hb5.block _ hBX.lt).trans hBX
                  have hBz : (w5.alloc (.cells #[.int .i64 0, .int .i64 0, .slice none 0 0] 31)).heap[w5.heap.size]? = some (.cells #[.int .i64 0, .int .i64 0, .slice none 0 0] 31 (0, 0)) := heap_alloc_new w5 _
                  have hb6 : Below w5.heap.size w5 ((w5.alloc (.cells #[.int .i64 0, .int .i64 0, .slice none 0 0] 31)).setRow w5.heap.size zeroL) := below_setRow' ((Below.refl _ _).alloc (Nat.le_refl _) _) (Nat.le_refl _)
                  have hH5 := hH5a.up hb6
                  have hB5x : Blk ((w5.alloc (.cells #[.int .i64 0, .int .i64 0, .slice none 0 0] 31)).setRow w5.heap.size zeroL) bx zeroL 31 := (hb6.block _ hB5a.lt).trans hB5a
                  have hallX : zeroL.all (·.oneCell') = true := by simp [zeroL, Value.oneCell']
                  clear hdr hb5 hb6 hH5a hB5a hHX hOX hBX c0 c2 c3 c4 c5 c6
                  have hfind := find_any w0.heap.size (.slice so ss.length sc) ss ((w5.alloc (.cells #[.int .i64 0, .int .i64 0, .slice none 0 0] 31)).setRow w5.heap.size zeroL) hH5.own hH5.dat (by omega) 0 0 none 0 0 [] rfl (fun h => by simp at h)
                  go_wp2_with (first | (refine wpList_store_row rfl 31 (.tmp 15) (.tmp 138) rfl w5.heap.size zeroL rfl rfl 31 _ hBz (by kernel_rfl) rfl hallX ?_) | (go_at_call 9; refine (num_any _ _).mono ?_; rintro e9 w9 ⟨rfl, rfl⟩) | (refine wpList_load_row rfl 31 (.tmp 12) rfl bx rfl 31 zeroL (0, 0) _ hB5x Try.underlying31 rfl (by kernel_rfl) ?_) | fail)
                  generalize ((w5.alloc (.cells #[.int .i64 0, .int .i64 0, .slice none 0 0] 31)).setRow w5.heap.size zeroL) = w6 at *
                  refine hfind.mono ?_
                  rintro e7 w7 ⟨hb7, r, rfl, _⟩
                  have hH7 := hH5.up hb7
                  clear hfind hb7 hH5 hB5x
                  have hln := len_any w7 hH7.bag
                  rw [hA.lens] at hln
                  have HH : Hid _ := hH7
                  have HA : Hid _ := hA
                  clear hH7 hA
                  go_wp2_with (first | (go_at_call 9; refine (num_any _ _).mono ?_; rintro e9 w9 ⟨rfl, rfl⟩) | (go_at_call 12; refine hln.mono ?_; rintro e12 w12 ⟨rfl, rfl⟩)  | fail)
                  go_roundw
                  case rel => exact ⟨k + 1, by omega, by go_num, _, _, _, HH.out, HA.out⟩
                  case measure => simp [intOf]; omega
              · go_wp2_with fail
                clear p0 p1 p2 p3 p4 p5 p6
                generalize (wr.alloc _ : World) = wb at *
                generalize hob : wr.heap.size = ob at *
                clear hOB
                have hln := len_any wb hHb.bag
                rw [hA.lens] at hln
                have HH : Hid _ := hHb
                have HA : Hid _ := hA
                clear hHb hA
                go_wp2_with (first | (go_at_call 9; refine (num_any _ _).mono ?_; rintro e9 w9 ⟨rfl, rfl⟩) | (go_at_call 12; refine hln.mono ?_; rintro e12 w12 ⟨rfl, rfl⟩)  | fail)
                go_roundw
                case rel => exact ⟨k + 1, by omega, by go_num, _, _, _, HH.out, HA.out⟩
                case measure => simp [intOf]; omega
    · obtain rfl : N = k := by omega
      have HH0 : Hid _ := hH
      have HA0 : Hid _ := hA
      clear hH hA hat hok hsmall hll hsl
      go_wp2
      go_loopw [7, 18] (fun s x wr => x = .int .i64 0 ∧ ∃ v lv ss, Hon w0 (1 + m) v s lv ss wr ∧ Agree (1 + m) lv ss) (fun s _ _ => lenOf s)
      case atStart => exact ⟨rfl, _, _, _, HH0.out, HA0.out⟩
      case round =>
        obtain ⟨rfl, v, lv, ss, hH, hA⟩ := hrel
        rename World => wq
        clear HH0 HA0
        have hll := hA.len
        have hsl := hA.lens
        obtain ⟨so, sc, rfl, _⟩ := own_slice hH.own
        have hln := len_any wq hH.bag
        by_cases hpos : 0 < lv.length
        · obtain ⟨l, hl⟩ : ∃ l, lv[0]? = some l := ⟨lv[0]'(by omega), List.getElem?_eq_getElem _⟩
          have hsm := hA.small l (List.mem_of_getElem? hl)
          have hatq := at_at wq hH.bag (by omega) 0 l hl (by omega)
          rw [show ((0 : Nat) : Int) = 0 from rfl] at hatq
          have hposI : (0 : Int) < (lv.length : Int) := by omega
          go_wp2_with fail
          refine hln.mono ?_
          rintro e1 wp ⟨rfl, rfl⟩
          go_wp2_with fail
          refine hatq.mono ?_
          rintro e3 w3 ⟨d, rfl, hd, hb3⟩
          have hH3 := hH.up hb3
          have hall0 : (letC l.f l.t d).all (·.oneCell') = true := by
            obtain ⟨x, y, h, _⟩ := own_slice hd
            rw [h]
            simp [letC, Value.oneCell']
          have hBz : (w3.alloc (.cells #[.int .i64 0, .int .i64 0, .slice none 0 0] 31)).heap[w3.heap.size]? = some (.cells #[.int .i64 0, .int .i64 0, .slice none 0 0] 31 (0, 0)) := heap_alloc_new w3 _
          have hbX : Below w3.heap.size w3 ((w3.alloc (.cells #[.int .i64 0, .int .i64 0, .slice none 0 0] 31)).setRow w3.heap.size (letC l.f l.t d)) := below_setRow' ((Below.refl _ _).alloc (Nat.le_refl _) _) (Nat.le_refl _)
          have hHX := hH3.up hbX
          have hBX : Blk ((w3.alloc (.cells #[.int .i64 0, .int .i64 0, .slice none 0 0] 31)).setRow w3.heap.size (letC l.f l.t d)) w3.heap.size (letC l.f l.t d) 31 := setRow_heap _ _ _ _ 31 _ hBz
          have hdX : ((w3.alloc (.cells #[.int .i64 0, .int .i64 0, .slice none 0 0] 31)).setRow w3.heap.size (letC l.f l.t d)).ownsRow wp.heap.size 5 1 d l.bs.length (l.bs.map B) := ownsRow_same hd fun g hg => hbX.block g (hd.lt g hg).2
          have hallX := hall0
          clear hatq hln hH hb3 hH3 hbX hd
          obtain ⟨dao, dcap, rfl, _, dnil, dfrom, _⟩ := own_from hdX
          clear hdX
          have hfind := find_any w0.heap.size (.slice so ss.length sc) ss ((w3.alloc (.cells #[.int .i64 0, .int .i64 0, .slice none 0 0] 31)).setRow w3.heap.size (letC l.f l.t (.slice dao l.bs.length dcap))) hHX.own hHX.dat (by omega) l.f l.t dao l.bs.length dcap l.bs rfl dfrom
          go_wp2_with (first | (refine wpList_store_row rfl 31 (.tmp 19) (.tmp 193) rfl w3.heap.size (letC l.f l.t (.slice dao l.bs.length dcap)) rfl rfl 31 _ hBz (by kernel_rfl) rfl hallX ?_) | (go_at_call 9; refine (num_any _ _).mono ?_; rintro e9 w9 ⟨rfl, rfl⟩) | (refine wpList_load_row rfl 31 (.tmp 19) rfl w3.heap.size rfl 31 _ (0, 0) _ hBX Try.underlying31 rfl (by kernel_rfl) ?_) | fail)
          generalize ((w3.alloc _ : World).setRow _ _) = w4 at *
          refine hfind.mono ?_
          rintro e7 w7 ⟨hb7, r, rfl, hfound⟩
          have hH7 := hHX.up hb7
          obtain ⟨a, y, rfl, hy, hyk⟩ : ∃ a y, r = ((a : Nat) : Int) ∧ ss[a]? = some y ∧ y.k = l.k := by
            rcases hfound with ⟨a, y, h1, h2, h3⟩ | ⟨_, h2⟩
            · exact ⟨a, y, h1, h2, h3⟩
            · obtain ⟨y, hy, hyk⟩ := hA.has (List.mem_of_getElem? hl)
              exact absurd hyk (h2 y hy)
          have hal := (List.getElem?_eq_some_iff.1 hy).1
          have ha0 : ¬ (((a : Nat) : Int) < 0) := by omega
          obtain ⟨g, cap7, hv7, hcap7, hstep⟩ := hH7.cut a y hy (by omega)
          cases hv7
          have hA8 := hA.cut hl hy hyk.symm
          clear hfind hb7 hfound hH7 hHX hA hBX dnil dfrom
          go_wp2_with (first | (go_at_call 9; refine (num_any _ _).mono ?_; rintro e9 w9 ⟨rfl, rfl⟩) | fail)
          rename_i K hK
          refine wp_region_mix (fun _ => True) (fun i => i == 7 || i == 9) 9 (by kernel_rfl) rfl (by kernel_rfl) (by kernel_rfl) (by kernel_rfl) ?_
          obtain ⟨w8, hrun8, hH8, hG8⟩ := hstep ({ w9 with drawn := w9.drawn + 1 } : World) (fun _ => rfl) rfl rfl rfl rfl
          generalize ({ w9 with drawn := w9.drawn + 1 } : World) = W7 at *
          have hC : True := trivial
          refine withFrP (N := 220) rfl ?_
          intro f0 F0 hff
          have hs7 : f0 7 = Value.slice (some ⟨g, 0, none⟩) ss.length sc := hff 7
          have hsx : f0 21 = Value.int .i64 (a : Nat) := hff 21
          clear hff
          refine lyp F0 rfl hC rfl (by omega) (wanted_none rfl) (v := Value.slice (some ⟨g, 0, none⟩) ss.length sc) (fun wr hwr => by simp only [execOp, (F0.eval 7 (by omega)).trans (show _ = Value.slice (some ⟨g, 0, none⟩) ss.length sc from by simp [upd, hs7, hsx])]; first | rfl | simp [go_sem]) fun F1 => ?_
          refine lyp F1 rfl hC rfl (by omega) (wanted_none rfl) (v := Value.int .i64 (a : Nat)) (fun wr hwr => by simp only [execOp, (F1.eval 21 (by omega)).trans (show _ = Value.int .i64 (a : Nat) from by simp [upd, hs7, hsx])]; first | rfl | simp [go_sem]) fun F2 => ?_
          refine lyp F2 rfl hC rfl (by omega) (wanted_none rfl) (v := Value.slice (some ⟨g, 0, none⟩) a sc) (fun wr hwr => by simp only [execOp, Option.map_some, Option.map_none, (F2.eval 205 (by omega)).trans (show _ = Value.slice (some ⟨g, 0, none⟩) ss.length sc from by simp [upd, hs7, hsx]), (F2.eval 206 (by omega)).trans (show _ = Value.int .i64 (a : Nat) from by simp [upd, hs7, hsx]), Sem.run_bind, slice_to g ss.length sc a (by omega) wr, Result.andThen_ok, Sem.run_pure]) fun F3 => ?_
          refine lyp F3 rfl hC rfl (by omega) (wanted_none rfl) (v := Value.slice (some ⟨g, 0, none⟩) ss.length sc) (fun wr hwr => by simp only [execOp, (F3.eval 7 (by omega)).trans (show _ = Value.slice (some ⟨g, 0, none⟩) ss.length sc from by simp [upd, hs7, hsx])]; first | rfl | simp [go_sem]) fun F4 => ?_
          refine lyp F4 rfl hC rfl (by omega) (wanted_none rfl) (v := Value.int .i64 (a : Nat)) (fun wr hwr => by simp only [execOp, (F4.eval 21 (by omega)).trans (show _ = Value.int .i64 (a : Nat) from by simp [upd, hs7, hsx])]; first | rfl | simp [go_sem]) fun F5 => ?_
          refine lyp F5 rfl hC rfl (by omega) (wanted_none rfl) (v := Value.int .i64 ((a + 1 : Nat) : Int)) (fun wr hwr => by simp only [execOp, (F5.eval 209 (by omega)).trans (show _ = Value.int .i64 (a : Nat) from by simp [upd, hs7, hsx])]; simp [go_sem, Act.eval]; rw [IntKind.wrap_i64]; omega) fun F6 => ?_
          refine lyp F6 rfl hC rfl (by omega) (wanted_none rfl) (v := from_ g ss.length sc (a + 1)) (fun wr hwr => by simp only [execOp, Option.map_some, Option.map_none, (F6.eval 208 (by omega)).trans (show _ = Value.slice (some ⟨g, 0, none⟩) ss.length sc from by simp [upd, hs7, hsx]), (F6.eval 210 (by omega)).trans (show _ = Value.int .i64 ((a + 1 : Nat) : Int) from by simp [upd, hs7, hsx]), Sem.run_bind, slice_from g ss.length sc (a + 1) (by omega) hcap7 wr, Result.andThen_ok, Sem.run_pure]) fun F7 => ?_
          refine lep F7 rfl hC rfl (by omega) (wanted_none rfl) (v := Value.slice (some ⟨g, 0, none⟩) (ss.eraseIdx a).length sc) (w1 := w8) (by simp only [execOp, resolve, invoke, builtin, Sem.run_bind, Sem.run_pure, Result.andThen_ok, List.map_toArray, List.map_cons, List.map_nil, (F7.eval 207 (by omega)).trans (show _ = Value.slice (some ⟨g, 0, none⟩) a sc from by simp [upd, hs7, hsx]), (F7.eval 211 (by omega)).trans (show _ = from_ g ss.length sc (a + 1) from by simp [upd, hs7, hsx]), hrun8]) fun F8 => ?_
          refine lyp F8 rfl hC rfl (by omega) (wanted_none rfl) (v := Value.slice (some ⟨g, 0, none⟩) (ss.eraseIdx a).length sc) (fun wr hwr => by simp only [execOp, (F8.eval 212 (by omega)).trans (show _ = Value.slice (some ⟨g, 0, none⟩) (ss.eraseIdx a).length sc from by simp [upd, hs7, hsx])]; first | rfl | simp [go_sem]) fun F9 => ?_
          refine ⟨fun _ => trivial, ?_⟩
          clear F0 F1 F2 F3 F4 F5 F6 F7 F8 F9 hs7 hsx hrun8 hstep
          refine hK _ _ ?_
          simp only [Act.put, List.setIfInBounds_toArray, List.set_cons_succ, List.set_cons_zero]
          have hdr := drop_at w8 hH8.bag (by omega) 0 l hl
          rw [show ((0 : Nat) : Int) = 0 from rfl] at hdr
          have hel := er_len ss a hal
          clear hG8
          go_wp2_with fail
          refine hdr.mono ?_
          rintro e9 w9 ⟨rfl, v9, hB9, hst9⟩
          have hH9 := hH8.bagStep hB9 hst9
          have HH : Hid _ := hH9
          have HA : Hid _ := hA8
          clear hdr hB9 hst9 hH8 hH9 hA8
          go_wp2
          go_roundw
          case rel => exact ⟨by go_num, _, _, _, HH.out, HA.out⟩
          case measure => simp [lenOf]; omega
        · have hl0 : lv.length = 0 := by omega
          have hs0 : ss.length = 0 := by omega
          rw [hl0, show ((0 : Nat) : Int) = 0 from rfl] at hln
          rw [hs0]
          have HH : Hid _ := hH
          clear hH hA
          go_wp2_with (first | (go_at_call 12; refine hln.mono ?_; rintro e12 w12 ⟨rfl, rfl⟩) | fail)
          go_ret
          exact ⟨rfl, HH.out.below⟩
end Go.Proofs.Ytehjdkdoalmaeaa
