import Derived.Test.YtcnokgphioigoaaJG
import Derived.Test.YtcnokgphioigoaaJH
import Derived.Deep.Cut
import Derived.Test.YtcnokgphioigoaaJD
namespace Go.Proofs.Ytcnokgphioigoaa
open Go.RowKit Go.PlainAid
set_option linter.unusedVariables false
set_option linter.unusedSimpArgs false
theorem tail_at {w : World} {L e n i : Nat} {v u : Value} {xs : List Value} (h : Tail w L e v n xs) (hu : xs[i]? = some u) : ∃ g off cap, v = .slice (some ⟨g, off, none⟩) n cap ∧ w.cell? ⟨g, off + i, none⟩ = some u := by
  rcases h.2 with ⟨e1, e2⟩ | ⟨g, off, cap, e1, _, _, _, h5⟩
  · have := (List.getElem?_eq_some_iff.1 hu).1
    have := h.1
    omega
  · exact ⟨g, off, cap, e1, h5 i u hu⟩
set_option maxRecDepth 100000 in
theorem at_yes {L jb : Nat} {y : JV} {R : List (Ent L)} {i : Nat} {d : Value × List UInt8} (w : World) (h : Held (y.es L jb ++ R) w) (hd : y.recs[i]? = some d) (hl : d.2.length ≤ 8192) (hr : y.recs.length ≤ 100000) :
    Calls Try.prog 31 #[.pointer (some ⟨jb, 0, none⟩), .int .i64 (i : Int)] w fun e w' => ∃ v', e = .returned (.tuple #[v', .int .i64 0]) ∧ w'.ownsRow w.heap.size 5 1 v' d.2.length (d.2.map B) ∧ Below w.heap.size w w' := by
  have hi := (List.getElem?_eq_some_iff.1 hd).1
  obtain ⟨g, o, rc, hrv, kd⟩ := tail_at (jrow h) (i := i) (u := d.1) (by rw [List.getElem?_map, hd]; rfl)
  have c1 : w.cell? ⟨jb, 1, none⟩ = some (.slice (some ⟨g, o, none⟩) y.recs.length rc) := ((jbox h).cell 1).trans (congrArg some hrv)
  have hrow := jdat h (List.mem_of_getElem? hd)
  obtain ⟨do', dc, hdv, _⟩ := own_slice hrow
  have HC : Hid _ := clone_any (vo := do') (n := d.2.length) (c := dc) w (by rw [← hdv]; exact own_by hrow) hl
  rw [hdv] at kd
  obtain ⟨n, hn⟩ : ∃ n, n = y.recs.length := ⟨_, rfl⟩
  rw [← hn] at c1 hi hr
  have hi2 : ¬ ((i : Int) < 0) := by omega
  have hi3 : ¬ ((n : Int) ≤ (i : Int)) := by omega
  clear h hd hrv hrow hdv hn hl
  go_enter Try.func31, Try.ntmps31
  go_wp2_with fail
  refine Calls.mono HC.out ?_
  rintro e w1 ⟨v', rfl, h1, h2⟩
  have HF : Hid (∃ v, v = v' ∧ w1.ownsRow w.heap.size 5 1 v' d.2.length (d.2.map B) ∧ Below w.heap.size w w1) := ⟨v', rfl, h1, h2⟩
  clear HC h1 h2
  go_wp2_with fail
  go_ret2
  obtain ⟨_, _, h1, h2⟩ := HF.out
  exact ⟨v', rfl, h1, h2⟩
set_option maxRecDepth 100000 in
theorem within_any (z : Int) (n : Nat) (w : World) (hz : -9223372036854775808 ≤ z ∧ z ≤ 9223372036854775807) (hn : 1 ≤ n ∧ n ≤ 100000) : Calls Try.prog 10 #[.int .i64 z, .int .i64 (n : Int)] w fun e w' => ∃ k : Nat, k < n ∧ e = .returned (.int .i64 (k : Int)) ∧ w' = w := by
  by_cases h0 : z < 0
  · obtain ⟨q, hq⟩ : ∃ q : Nat, (q : Int) = -(z + 1) := ⟨(-(z + 1)).toNat, by omega⟩
    have ht : (-(z + 1)).tmod (n : Int) = ((q % n : Nat) : Int) := by rw [← hq, Int.tmod_eq_emod_of_nonneg (by omega)]; omega
    have hne : ¬ (n : Int) = 0 := by omega
    have hlt : q % n < n := Nat.mod_lt _ (by omega)
    have HQ : Hid (q % n < n) := hlt
    generalize q % n = k at ht hlt HQ
    clear hq
    go_enter Try.func10, Try.ntmps10
    go_wp2_with fail
    go_ret
    exact ⟨k, HQ.out, rfl, rfl⟩
  · obtain ⟨q, hq⟩ : ∃ q : Nat, (q : Int) = z := ⟨z.toNat, by omega⟩
    subst hq
    have ht : (q : Int).tmod (n : Int) = ((q % n : Nat) : Int) := by rw [Int.tmod_eq_emod_of_nonneg (by omega)]; omega
    have hne : ¬ (n : Int) = 0 := by omega
    have hlt : q % n < n := Nat.mod_lt _ (by omega)
    have HQ : Hid (q % n < n) := hlt
    generalize q % n = k at ht hlt HQ
    go_enter Try.func10, Try.ntmps10
    go_wp2_with fail
    go_ret
    exact ⟨k, HQ.out, rfl, rfl⟩
end Go.Proofs.Ytcnokgphioigoaa
namespace Go.Proofs.Ytcnokgphioigoaa
open Go.RowKit Go.PlainAid
set_option linter.unusedVariables false
set_option linter.unusedSimpArgs false
def mk2 : List UInt8 := [165, 90]
set_option maxRecDepth 100000 in
set_option maxHeartbeats 1600000 in
theorem lent_any {v : Value} {s : List UInt8} (w : World) (h : By w v s) (hs : s.length ≤ 140737488355300) :
    Calls Try.prog 15 #[v] w fun e w' => ∃ g c, e = .returned (.slice (some ⟨g, 0, none⟩) (s.length + 2) c) ∧ s.length + 2 ≤ c ∧ w'.ownsRow w.heap.size 5 1 (.slice (some ⟨g, 0, none⟩) (s.length + 2) c) (s.length + 2) ((s ++ mk2).map B) ∧ Below w.heap.size w w' := by
  obtain ⟨ao, n, cap, rfl, hn, h0, hc⟩ := h
  obtain ⟨v1, w1, hr1, ho1, hg1⟩ := app_rows (w := w) 38 5 (.int .u8 0) 1 1 Try.underlying38 info5' rfl (by decide) (by decide) (World.ownsRow_nil w w.heap.size 5 1) (ao := ao) (m := n) (cap := cap) (ys := s.map B) (by simp [hn]) h0 hc (oneB s) (by omega) (Nat.le_refl _)
  have HHR : Hid (∀ ty, (Builtin.append_ #[38, 38] ty #[.slice none 0 0, .slice ao n cap]).run Try.prog w = .ok v1 w1) := hr1
  rw [Nat.zero_add, List.nil_append] at ho1
  have hb1 : Below w.heap.size w w1 := hg1.below (fun q hq => by cases hq) (Nat.le_refl _)
  obtain ⟨v2, w2, hr2, ho2, hg2⟩ := app_bytesB ho1 hb1.size mk2 (by show n + 2 ≤ _; omega)
  have hr2' : ∀ ty, (Builtin.append_ #[38, 38] ty #[v1, .slice (some ⟨w1.heap.size, 0, none⟩) 2 2]).run Try.prog (w1.alloc (.cells #[.int .u8 165, .int .u8 90] 5)) = .ok v2 w2 := hr2
  have HR2 : Hid _ := hr2'
  rw [← List.map_append] at ho2
  obtain ⟨g, c, hv2, hgc⟩ : ∃ g c, v2 = .slice (some ⟨g, 0, none⟩) (n + 2) c ∧ n + 2 ≤ c := by
    obtain ⟨ao, cc, e1, e2⟩ := own_slice ho2
    rcases id ho2.2 with ⟨e3, e4⟩ | ⟨g, c, cur, e3, _⟩
    · exact absurd e4 (Nat.succ_ne_zero _)
    · rw [e3] at e1
      cases e1
      exact ⟨g, _, e3, e2⟩
  have HF : Hid (w2.ownsRow w.heap.size 5 1 v2 (n + 2) ((s ++ mk2).map B) ∧ Below w.heap.size w w2 ∧ v2 = .slice (some ⟨g, 0, none⟩) (n + 2) c ∧ n + 2 ≤ c) := ⟨ho2, hb1.trans (hg2.below (fun q hq => (ownsRow_lt ho1 hq).1) hb1.size), hv2, hgc⟩
  obtain ⟨vo1, vc1, hv1, _⟩ := own_slice ho1
  rw [hn]
  subst hv2
  subst hv1
  clear hn hc h0 hs hr1 ho1 hg1 hb1 hr2 hr2' ho2 hg2 hgc
  go_enter Try.func15, Try.ntmps15
  go_wp2_with (at_builtin; first | refine wpList_runs rfl _ _ 38 rfl rfl rfl HHR.out ?_ | refine wpList_runs rfl _ _ 38 rfl rfl rfl HR2.out ?_)
  go_ret
  exact ⟨g, c, rfl, HF.out.2.2.2, by first | exact HF.out.1 | (have := HF.out.1; rw [List.map_append] at this; exact this), HF.out.2.1⟩
theorem slice38h (g o len cap m : Nat) (h : m ≤ cap) (w : World) : (Instr.sliceAt 38 (.slice (some ⟨g, o, none⟩) len cap) none (some (.int .i64 (m : Int))) none).run Try.prog w = .ok (.slice (some ⟨g, o, none⟩) m cap) w := by
  have hs : (sizeOf 5).run Try.prog w = .ok 1 w := by kernel_rfl
  have he : Try.prog.elem 38 = 5 := by kernel_rfl
  have hu2 : Try.prog.underlying 38 = some (.slice (Try.prog.elem 38)) := by rw [he]; exact Try.underlying38
  rw [run_sliceAt_slice _ _ _ _ _ _ hu2, run_slice_h _ _ _ _ _ hu2 .i64 (m : Int) (by omega) (by omega), he, hs]
  simp [Result.andThen, sliced, Addr.add]
theorem own_front {w : World} {L n m : Nat} {g c : Nat} {xs ys : List UInt8} (h : w.ownsRow L 5 1 (.slice (some ⟨g, 0, none⟩) n c) n ((xs ++ ys).map B)) (hx : xs.length = m) : By w (.slice (some ⟨g, 0, none⟩) m c) xs := by
  refine ⟨_, _, _, rfl, hx, (fun e => by cases e), fun ad e j u hu => ?_⟩
  cases e
  refine h.cells (g := g) rfl j u ?_
  rw [List.map_append, List.getElem?_append_left]
  · exact hu
  · exact (List.getElem?_eq_some_iff.1 hu).1
set_option maxRecDepth 100000 in
set_option maxHeartbeats 1600000 in
theorem back_any {L g c n : Nat} {v : Value} {bs : List UInt8} (w : World) (hr : w.ownsRow L 5 1 (.slice (some ⟨g, 0, none⟩) (n + 2) c) (n + 2) ((bs ++ mk2).map B)) (hc : n + 2 ≤ c) (hb : By w v bs) (hl : bs.length = n) (hn : n ≤ 140737488355300) :
    Calls Try.prog 17 #[.slice (some ⟨g, 0, none⟩) (n + 2) c, v] w fun e w' => e = .returned (.bool true) ∧ (∃ zs : List UInt8, w'.ownsRow L 5 1 (.slice (some ⟨g, 0, none⟩) (n + 2) c) (n + 2) (zs.map B)) ∧ Chg (fun k => k = g) w w' := by
  obtain ⟨ao, n2, cap, rfl, hn2, _, _⟩ := id hb
  obtain rfl : n2 = n := by omega
  have HS : Hid (Calls Try.prog 27 #[.slice (some ⟨g, 0, none⟩) n2 c, .slice ao n2 cap] w fun e w' => e = .returned (.bool true) ∧ w' = w) := by
    have h1 := same_any w (v := .slice (some ⟨g, 0, none⟩) n2 c) (u := .slice ao n2 cap) (xs := bs) (ys := bs) (own_front hr hl) hb
    rw [beq_self_eq_true] at h1
    exact h1
  have hsl : ∀ W, (Instr.sliceAt 38 (.slice (some ⟨g, 0, none⟩) (n2 + 2) c) none (some (.int .i64 (n2 : Int))) none).run Try.prog W = .ok (.slice (some ⟨g, 0, none⟩) n2 c) W := fun W => slice38h g 0 (n2 + 2) c n2 (by omega) W
  have hcell : ∀ j (u : UInt8), (bs ++ mk2)[j]? = some u → w.cell? ⟨g, j, none⟩ = some (B u) := fun j u hu => by
    have := hr.cells (g := g) rfl j (B u) (by rw [List.getElem?_map, hu]; rfl)
    rwa [addr_add, Nat.zero_add] at this
  have k0 : w.cell? ⟨g, n2, none⟩ = some (.int .u8 165) := hcell n2 165 (by rw [List.getElem?_append_right (by omega), hl, Nat.sub_self]; rfl)
  have k1 : w.cell? ⟨g, n2 + 1, none⟩ = some (.int .u8 90) := hcell (n2 + 1) 90 (by rw [List.getElem?_append_right (by omega), hl, show n2 + 1 - n2 = 1 by omega]; rfl)
  have HR1 : Hid (∃ zs : List UInt8, w.ownsRow L 5 1 (.slice (some ⟨g, 0, none⟩) (n2 + 2) c) (n2 + 2) (zs.map B)) := ⟨_, hr⟩
  clear hr hb hcell hl hn2
  go_enter Try.func17, Try.ntmps17
  go_wp2_with fail
  refine Calls.mono HS.out ?_
  rintro e wo ⟨rfl, hwo⟩
  replace hwo := hwo.symm
  subst hwo
  clear HS
  go_wp2_with fail
  clear k0 k1 hsl
  go_loopw [7] (fun s7 wr => ∃ i : Nat, i ≤ n2 + 2 ∧ s7 = .int .i64 (i : Int) ∧ (∃ zs : List UInt8, wr.ownsRow L 5 1 (.slice (some ⟨g, 0, none⟩) (n2 + 2) c) (n2 + 2) (zs.map B)) ∧ Chg (fun k => k = g) w wr) (fun s7 _ => n2 + 2 - (intOf s7).toNat)
  case atStart => exact ⟨0, Nat.zero_le _, rfl, HR1.out, Chg.refl _ _⟩
  case round =>
    clear HR1
    obtain ⟨i, hi, rfl, ⟨zs, hz⟩, hch⟩ := hrel
    have hzl : zs.length = n2 + 2 := by have := hz.1; simpa using this
    by_cases hlt : i < n2 + 2
    · have hx : wr.cell? ⟨g, i, none⟩ = some (B (zs[i]'(by omega))) := by
        have := hz.cells (g := g) rfl i (B (zs[i]'(by omega))) (by rw [List.getElem?_map, List.getElem?_eq_getElem (by omega)]; rfl)
        rwa [addr_add, Nat.zero_add] at this
      obtain ⟨h5, hf⟩ := own_setB (k := i) hz 85
      have h5' : (wr.setCell ⟨g, i, none⟩ (.int .u8 85)).ownsRow L 5 1 (.slice (some ⟨g, 0, none⟩) (n2 + 2) c) (n2 + 2) ((zs.set i 85).map B) := h5
      have HN : Hid ((∃ zs : List UInt8, (wr.setCell ⟨g, i, none⟩ (.int .u8 85)).ownsRow L 5 1 (.slice (some ⟨g, 0, none⟩) (n2 + 2) c) (n2 + 2) (zs.map B)) ∧ Chg (fun k => k = g) w (wr.setCell ⟨g, i, none⟩ (.int .u8 85))) := ⟨⟨_, h5'⟩, hch.trans (setCell_chg _ _ _ _) (fun _ _ e => e)⟩
      have hlti : (i : Int) < ((n2 + 2 : Nat) : Int) := by omega
      clear hz hch h5 h5'
      go_wp2_with fail
      go_roundw
      case rel => exact ⟨i + 1, by omega, by go_num, HN.out.1, HN.out.2⟩
      case measure => simp [intOf]; omega
    · have HF : Hid ((∃ zs : List UInt8, wr.ownsRow L 5 1 (.slice (some ⟨g, 0, none⟩) (n2 + 2) c) (n2 + 2) (zs.map B)) ∧ Chg (fun k => k = g) w wr) := ⟨⟨zs, hz⟩, hch⟩
      clear hz hch hzl
      go_wp2_with fail
      go_ret
      exact ⟨rfl, HF.out.1, HF.out.2⟩
end Go.Proofs.Ytcnokgphioigoaa
namespace Go.Proofs.Ytcnokgphioigoaa
open Go.RowKit Go.PlainAid
set_option linter.unusedVariables false
set_option linter.unusedSimpArgs false
set_option maxRecDepth 100000
set_option maxHeartbeats 3200000
/-- The desk's cells. -/
def deskC (p : Nat) (jv iv : Value) (on : Bool) (left torn : Int) (hv : Value) (next : Nat) (dead : Bool) (sb : Nat) : Array Value := #[.pointer (some ⟨p, 0, none⟩), jv, iv, .bool on, .int .i64 left, .int .i64 torn, hv, .int .i64 (next : Int), .bool dead, .pointer (some ⟨sb, 0, none⟩)]
def imE (L : Nat) (iv : Value) (x : DV) : Ent L := rowE L 5 1 iv (x.n * 512) ((imgL x).map B)
theorem im_lit {L : Nat} {iv : Value} {x : DV} {w : World} (h : w.ownsRow L 5 1 iv (x.n * 512) ((imgL x).map B)) (hn : 1 ≤ x.n) : ∃ g c, iv = .slice (some ⟨g, 0, none⟩) (x.n * 512) c ∧ x.n * 512 ≤ c ∧ By w (.slice (some ⟨g, 0, none⟩) (x.n * 512) c) (imgL x) := by
  obtain ⟨ao, c, e, hc⟩ := own_slice h
  rcases id h.2 with ⟨e2, e3⟩ | ⟨g, c2, cur, e2, _⟩
  · omega
  · rw [e2] at e
    cases e
    refine ⟨g, _, e2, hc, ?_⟩
    rw [e2] at h
    have hl : (imgL x).length = x.n * 512 := by rw [imgL_len]; omega
    have := own_by (L := L) (w := w) (v := .slice (some ⟨g, 0, none⟩) (x.n * 512) _) (s := imgL x) (by rw [hl]; exact h)
    exact this
theorem opens_any {L kb p s sb : Nat} {x : DV} {jv iv hv0 : Value} {left torn : Int} {next0 : Nat} {dead0 : Bool} {R : List (Ent L)} (w : World) (h : Held (boxE L kb (deskC p jv iv true left torn hv0 next0 dead0 sb) 64 :: imE L iv x :: dmE L p s x :: R) w) (ho : x.off = false) (hn : 1 ≤ x.n) (hxn : x.n ≤ 1000) :
    Calls Try.prog 44 #[.pointer (some ⟨kb, 0, none⟩)] w fun e w' => e = .returned (.bool true) ∧ ∃ jb y k hv hs, Full x.b x.n k ∧ JIs y p x k ∧ hs.map Prod.snd = (itR x.b k).1 ∧ (∃ ao c, hv = Value.slice ao hs.length c) ∧ hs.length = k ∧ Held (boxE L kb (deskC p (.pointer (some ⟨jb, 0, none⟩)) iv true left torn hv (itR x.b k).2 false sb) 64 :: (haveE L hv hs ++ (imE L iv x :: (y.es L jb ++ (dmE L p s x :: R))))) w' ∧ Below L w w' := by
  have hL : L ≤ w.heap.size := h.lowL (k := kb) rfl
  have k0 : w.cell? ⟨kb, 0, none⟩ = some (.pointer (some ⟨p, 0, none⟩)) := h.boxB.cell 0
  have HO : Hid (Calls Try.prog 14 #[.pointer (some ⟨p, 0, none⟩)] w fun e w' => ∃ jb y k, e = .returned (.tuple #[.pointer (some ⟨jb, 0, none⟩), .int .i64 0]) ∧ Full x.b x.n k ∧ JIs y p x k ∧ Held (boxE L kb (deskC p jv iv true left torn hv0 next0 dead0 sb) 64 :: imE L iv x :: (y.es L jb ++ (dmE L p s x :: R))) w' ∧ Below L w w') := by
    have h1 : Held (dmE L p s x :: boxE L kb (deskC p jv iv true left torn hv0 next0 dead0 sb) 64 :: imE L iv x :: R) w := h.perm (((List.Perm.swap ..).cons _).trans (List.Perm.swap ..))
    refine (open_any w h1 ho hxn).mono ?_
    rintro e w' ⟨jb, y, k, e1, e2, e3, e4, e5⟩
    refine ⟨jb, y, k, e1, e2, e3, e4.perm ?_, e5⟩
    have e6 : (y.es L jb ++ (dmE L p s x :: boxE L kb (deskC p jv iv true left torn hv0 next0 dead0 sb) 64 :: imE L iv x :: R)).Perm ((boxE L kb (deskC p jv iv true left torn hv0 next0 dead0 sb) 64 :: imE L iv x :: []) ++ ((y.es L jb ++ [dmE L p s x]) ++ R)) := by
      have e7 := List.Perm.append_right R (List.perm_append_comm (l₁ := y.es L jb ++ [dmE L p s x]) (l₂ := [boxE L kb (deskC p jv iv true left torn hv0 next0 dead0 sb) 64, imE L iv x]))
      simpa [List.append_assoc] using e7
    simpa [List.append_assoc] using e6
  have HX : Hid (1 ≤ x.n ∧ x.n ≤ 1000 ∧ L ≤ w.heap.size) := ⟨hn, hxn, hL⟩
  clear h ho hn hxn hL
  go_enter Try.func44, Try.ntmps44
  go_wp2_with fail
  refine Calls.mono HO.out ?_
  rintro e w1 ⟨jb, y, k, rfl, hF, hJ, h1, hb1⟩
  clear HO k0
  have c3 : w1.cell? ⟨kb, 3, none⟩ = some (.bool true) := h1.boxB.cell 3
  have c1 : w1.cell? ⟨kb, 1, none⟩ = some jv := h1.boxB.cell 1
  have f1 : w1.frozen? ⟨kb, 1, none⟩ = false := h1.boxB.frozen 1
  have h2 := h1.boxSet 1 (.pointer (some ⟨jb, 0, none⟩))
  have hb2 : Below L w (w1.setCell ⟨kb, 1, none⟩ (.pointer (some ⟨jb, 0, none⟩))) := hb1.trans ((setCell_chg _ _ _ _).below (h1.lowL (k := kb) rfl) (fun j e => by rw [e]; exact (h1.all _ (List.mem_cons_self ..)).2))
  obtain ⟨w2, hw2⟩ : ∃ w2, w2 = w1.setCell ⟨kb, 1, none⟩ (.pointer (some ⟨jb, 0, none⟩)) := ⟨_, rfl⟩
  rw [← hw2] at h2 hb2
  have h2' : Held (boxE L kb (deskC p (.pointer (some ⟨jb, 0, none⟩)) iv true left torn hv0 next0 dead0 sb) 64 :: imE L iv x :: (y.es L jb ++ (dmE L p s x :: R))) w2 := h2
  have hrow : w2.ownsRow L 5 1 iv (x.n * 512) ((imgL x).map B) := h2'.all (imE L iv x) (by simp)
  obtain ⟨ig, ic, hiv, hic, hby⟩ := im_lit hrow HX.out.1
  have c2 : w2.cell? ⟨kb, 2, none⟩ = some (.slice (some ⟨ig, 0, none⟩) (x.n * 512) ic) := by rw [← hiv]; exact h2'.boxB.cell 2
  have HRD : Hid _ := rread_any (L := L) (x := x) (g := ig) (c := ic) (R := boxE L kb (deskC p (.pointer (some ⟨jb, 0, none⟩)) iv true left torn hv0 next0 dead0 sb) 64 :: imE L iv x :: (y.es L jb ++ (dmE L p s x :: R))) w2 h2' (Nat.le_trans HX.out.2.2 hb2.size) (fun W _ hW => by
    have h9 : W.ownsRow L 5 1 iv (x.n * 512) ((imgL x).map B) := hW.all (imE L iv x) (by simp)
    obtain ⟨g9, c9, e9, _, b9⟩ := im_lit h9 HX.out.1
    rw [hiv] at e9
    cases e9
    exact b9) hic HX.out.2.1
  have HH : Hid (Full x.b x.n k ∧ JIs y p x k ∧ Below L w w2) := ⟨hF, hJ, hb2⟩
  clear hF hJ h1 hb1 h2 h2' hb2 hrow hiv hic hby
  go_upto_region 7 with fail
  rw [← hw2]
  clear hw2 c1 f1 c3
  go_wp2_with fail
  refine Calls.mono HRD.out ?_
  rintro e w3 ⟨k', hv, rfl, hF', ho', hc', hs, hhv, hhl, hhm, h3, hb3⟩
  clear HRD c2
  obtain rfl : k' = k := hF'.one HH.out.1
  subst hhv
  have h4 : Held (boxE L kb (deskC p (.pointer (some ⟨jb, 0, none⟩)) iv true left torn hv0 next0 dead0 sb) 64 :: (haveE L (.slice ho' k' hc') hs ++ (imE L iv x :: (y.es L jb ++ (dmE L p s x :: R))))) w3 := h3.perm List.perm_middle
  have d6 : w3.cell? ⟨kb, 6, none⟩ = some hv0 := h4.boxB.cell 6
  have g6 : w3.frozen? ⟨kb, 6, none⟩ = false := h4.boxB.frozen 6
  have d7 : w3.cell? ⟨kb, 7, none⟩ = some (.int .i64 (next0 : Int)) := h4.boxB.cell 7
  have g7 : w3.frozen? ⟨kb, 7, none⟩ = false := h4.boxB.frozen 7
  have d8 : w3.cell? ⟨kb, 8, none⟩ = some (.bool dead0) := h4.boxB.cell 8
  have g8 : w3.frozen? ⟨kb, 8, none⟩ = false := h4.boxB.frozen 8
  have h5 := ((h4.boxSet 6 (.slice ho' k' hc')).boxSet 7 (.int .i64 ((itR x.b k').2 : Int))).boxSet 8 (.bool false)
  have HN : Hid (Held (boxE L kb (deskC p (.pointer (some ⟨jb, 0, none⟩)) iv true left torn (.slice ho' k' hc') (itR x.b k').2 false sb) 64 :: (haveE L (.slice ho' k' hc') hs ++ (imE L iv x :: (y.es L jb ++ (dmE L p s x :: R))))) (((w3.setCell ⟨kb, 6, none⟩ (.slice ho' k' hc')).setCell ⟨kb, 7, none⟩ (.int .i64 ((itR x.b k').2 : Int))).setCell ⟨kb, 8, none⟩ (.bool false)) ∧ Below L w (((w3.setCell ⟨kb, 6, none⟩ (.slice ho' k' hc')).setCell ⟨kb, 7, none⟩ (.int .i64 ((itR x.b k').2 : Int))).setCell ⟨kb, 8, none⟩ (.bool false)) ∧ hs.map Prod.snd = (itR x.b k').1 ∧ hs.length = k') := ⟨h5, (HH.out.2.2.trans hb3).trans (((((Chg.refl _ w3).trans (setCell_chg _ _ _ _) (fun _ _ e => e)).trans (setCell_chg _ _ _ _) (fun _ _ e => e)).trans (setCell_chg _ _ _ _) (fun _ _ e => e)).below (h4.lowL (k := kb) rfl) (fun j e => by rw [e]; exact (h4.all _ (List.mem_cons_self ..)).2)), hhm, hhl⟩
  clear h3 hb3 h4 h5 hF' hhm hhl
  obtain ⟨nx, hnx⟩ : ∃ nx, nx = (itR x.b k').2 := ⟨_, rfl⟩
  have HNX : Hid (nx = (itR x.b k').2) := hnx
  rw [← hnx] at HN ⊢
  clear hnx
  go_wp2_with fail
  go_ret
  refine ⟨rfl, jb, y, k', _, hs, HH.out.1, HH.out.2.1, HN.out.2.2.1, ⟨ho', hc', by rw [HN.out.2.2.2]⟩, HN.out.2.2.2, ?_, ?_⟩
  · rw [← HNX.out]; exact HN.out.1
  · exact HN.out.2.1
end Go.Proofs.Ytcnokgphioigoaa
namespace Go.Proofs.Ytcnokgphioigoaa
open Go.RowKit Go.PlainAid
set_option linter.unusedVariables false
set_option linter.unusedSimpArgs false
/-- Lists of bytes that a slice holds. -/
def Rows (w : World) (v : Value) (ls : List (List UInt8)) : Prop := ∃ ao c, v = .slice ao ls.length c ∧ ∀ i bs, ls[i]? = some bs → ∃ b off uo k uc, ao = some ⟨b, off, none⟩ ∧ w.cell? ⟨b, off + i, none⟩ = some (.slice uo k uc) ∧ By w (.slice uo k uc) bs
theorem Rows.more {w w' : World} {v : Value} {ls : List (List UInt8)} (h : Rows w v ls) (hb : Below w.heap.size w w') : Rows w' v ls := by
  obtain ⟨ao, c, h1, h2⟩ := h
  refine ⟨ao, c, h1, fun i bs hi => ?_⟩
  obtain ⟨b, off, uo, k, uc, e1, e2, e3⟩ := h2 i bs hi
  exact ⟨b, off, uo, k, uc, e1, (hb.cell (World.block_lt_of_cell? _ _ e2)).trans e2, e3.keep hb⟩
set_option maxRecDepth 100000 in
theorem at_no {L jb : Nat} {y : JV} {R : List (Ent L)} (i : Int) (w : World) (h : Held (y.es L jb ++ R) w) (hi : i < 0 ∨ (y.recs.length : Int) ≤ i) (hr : y.recs.length ≤ 100000) :
    Calls Try.prog 31 #[.pointer (some ⟨jb, 0, none⟩), .int .i64 i] w fun e w' => e = .returned (.tuple #[.slice none 0 0, .int .i64 1]) ∧ w' = w := by
  obtain ⟨ro, rc, hrv⟩ := tail_val (jrow h)
  have c1 : w.cell? ⟨jb, 1, none⟩ = some (.slice ro y.recs.length rc) := ((jbox h).cell 1).trans (congrArg some hrv)
  obtain ⟨n, hn⟩ : ∃ n, n = y.recs.length := ⟨_, rfl⟩
  rw [← hn] at c1 hi hr
  clear h hrv hn
  by_cases h0 : i < 0
  · clear hi
    go_enter Try.func31, Try.ntmps31
    go_wp2_with fail
    go_ret2
    exact ⟨rfl, rfl⟩
  · have h1 : (n : Int) ≤ i := by omega
    clear hi
    go_enter Try.func31, Try.ntmps31
    go_wp2_with fail
    go_ret2
    exact ⟨rfl, rfl⟩
set_option maxRecDepth 100000 in
set_option maxHeartbeats 1600000 in
theorem tells_yes {L jb : Nat} {y : JV} {R : List (Ent L)} {v : Value} {ls : List (List UInt8)} (w : World) (h : Held (y.es L jb ++ R) w) (hls : y.recs.map Prod.snd = ls) (hl8 : ∀ d ∈ y.recs, d.2.length ≤ 8192) (hr : y.recs.length ≤ 100000) (hv : Rows w v ls) :
    Calls Try.prog 19 #[.pointer (some ⟨jb, 0, none⟩), v] w fun e w' => e = .returned (.bool true) ∧ Below w.heap.size w w' := by
  obtain ⟨m, hm⟩ : ∃ m, m = y.recs.length := ⟨_, rfl⟩
  have hlm : ls.length = m := by rw [← hls, List.length_map, hm]
  obtain ⟨ao, c, rfl, hrow⟩ := hv
  have HV : Hid (∀ W, Below w.heap.size w W → ∀ i bs, ls[i]? = some bs → ∃ b off uo k uc, ao = some ⟨b, off, none⟩ ∧ W.cell? ⟨b, off + i, none⟩ = some (.slice uo k uc) ∧ By W (.slice uo k uc) bs) := fun W hW i bs hi => by
    obtain ⟨b, off, uo, k, uc, e1, e2, e3⟩ := hrow i bs hi
    exact ⟨b, off, uo, k, uc, e1, (hW.cell (World.block_lt_of_cell? _ _ e2)).trans e2, e3.keep hW⟩
  have HLN : Hid (∀ W, Below w.heap.size w W → Calls Try.prog 30 #[.pointer (some ⟨jb, 0, none⟩)] W fun e w' => e = .returned (.int .i64 (m : Int)) ∧ w' = W) := fun W hW => by
    rw [hm]; exact len_any W (h.more hW) (by omega)
  have HAT : Hid (∀ (W : World) (i : Nat), Below w.heap.size w W → i < m → ∃ bs, ls[i]? = some bs ∧ Calls Try.prog 31 #[.pointer (some ⟨jb, 0, none⟩), .int .i64 (i : Int)] W fun e w' => ∃ uo k uc, e = .returned (.tuple #[.slice uo k uc, .int .i64 0]) ∧ By w' (.slice uo k uc) bs ∧ Below w.heap.size w w') := fun W i hW hi => by
    have hd : y.recs[i]? = some (y.recs[i]'(by omega)) := List.getElem?_eq_getElem _
    refine ⟨(y.recs[i]'(by omega)).2, by subst hls; exact (List.getElem?_map ..).trans (congrArg (Option.map Prod.snd) hd), ?_⟩
    refine (at_yes W (h.more hW) hd (hl8 _ (List.getElem_mem _)) hr).mono ?_
    rintro e w' ⟨v', rfl, h1, h2⟩
    obtain ⟨uo, uc, rfl, _⟩ := own_slice h1
    exact ⟨uo, _, uc, rfl, own_by h1, hW.trans (h2.mono hW.size)⟩
  have HNO : Hid (∀ (W : World) (z : Int), Below w.heap.size w W → (z < 0 ∨ (m : Int) ≤ z) → Calls Try.prog 31 #[.pointer (some ⟨jb, 0, none⟩), .int .i64 z] W fun e w' => e = .returned (.tuple #[.slice none 0 0, .int .i64 1]) ∧ w' = W) := fun W z hW hz => at_no z W (h.more hW) (by rw [← hm]; exact hz) hr
  rw [hlm]
  have hmb : m ≤ 100000 := by omega
  have HL1 : Hid _ := HLN.out w (Below.refl _ _)
  have HB0 : Hid (Below w.heap.size w w) := Below.refl _ _
  clear h hls hl8 hr hrow hm hlm HLN
  go_enter Try.func19, Try.ntmps19
  go_wp2_with fail
  refine Calls.mono HL1.out ?_
  rintro e wo ⟨rfl, hwo⟩
  replace hwo := hwo.symm
  subst hwo
  clear HL1
  go_wp2_with fail
  go_loopw [5] (fun s5 wr => ∃ i : Nat, i ≤ m ∧ s5 = .int .i64 (i : Int) ∧ Below w.heap.size w wr) (fun s5 _ => m - (intOf s5).toNat)
  case atStart => exact ⟨0, Nat.zero_le _, rfl, HB0.out⟩
  case round =>
    clear HB0
    obtain ⟨i, hi, rfl, hb⟩ := hrel
    by_cases hlt : i < m
    · obtain ⟨bs, hbs, hc⟩ := HAT.out wr i hb hlt
      have HC : Hid _ := hc
      have hlti : (i : Int) < (m : Int) := by omega
      clear hc hb
      go_wp2_with fail
      refine Calls.mono HC.out ?_
      rintro e w1 ⟨uo, k, uc, rfl, hby, hb1⟩
      clear HC
      obtain ⟨b, off, to9, tk, tc, rfl, hcell, hbt⟩ := HV.out w1 hb1 i bs hbs
      have HS : Hid (Calls Try.prog 27 #[.slice uo k uc, .slice to9 tk tc] w1 fun e w' => e = .returned (.bool true) ∧ w' = w1) := by
        have h1 := same_any w1 hby hbt
        rw [beq_self_eq_true] at h1
        exact h1
      have HB1 : Hid (Below w.heap.size w w1) := hb1
      clear hby hbt hbs hb1
      go_wp2_with fail
      refine Calls.mono HS.out ?_
      rintro e wo ⟨rfl, hwo⟩
      replace hwo := hwo.symm
      subst hwo
      clear HS hcell
      go_wp2_with fail
      go_roundw
      case rel => exact ⟨i + 1, by omega, by go_num, HB1.out⟩
      case measure => simp [intOf]; omega
    · obtain rfl : i = m := by omega
      have H1 : Hid _ := HNO.out wr (i : Int) hb (Or.inr (Int.le_refl _))
      have H2 : Hid _ := HNO.out wr (-1) hb (Or.inl (by decide))
      have HN1 : Hid _ := num_any 1 wr
      have HB1 : Hid (Below w.heap.size w wr) := hb
      clear hb HAT HNO HV
      go_wp2_with fail
      refine Calls.mono H1.out ?_
      rintro e wo ⟨rfl, hwo⟩
      replace hwo := hwo.symm
      subst hwo
      clear H1
      go_wp2_with fail
      refine Calls.mono H2.out ?_
      rintro e wo ⟨rfl, hwo⟩
      replace hwo := hwo.symm
      subst hwo
      clear H2
      go_wp2_with fail
      refine Calls.mono HN1.out ?_
      rintro e wo ⟨rfl, hwo⟩
      replace hwo := hwo.symm
      subst hwo
      go_wp2_with fail
      refine Calls.mono HN1.out ?_
      rintro e wo ⟨rfl, hwo⟩
      replace hwo := hwo.symm
      subst hwo
      clear HN1
      go_wp2_with fail
      go_ret
      exact ⟨rfl, HB1.out⟩
end Go.Proofs.Ytcnokgphioigoaa
namespace Go.Proofs.Ytcnokgphioigoaa
open Go.RowKit Go.PlainAid
set_option linter.unusedVariables false
set_option linter.unusedSimpArgs false
def xAb : DV := wroteX (fresh 4) 1 0 [97, 98] 1
theorem xAb0 : (secL xAb.b 0).getD 0 0 = 1 ∧ (secL xAb.b 0).getD 511 0 = 2 ∧ (secL xAb.b 0).getD 8 0 = 97 := ⟨by kernel_rfl, by kernel_rfl, by kernel_rfl⟩
def litC : Array Value := #[.int .u8 97, .int .u8 98]
/-- A literal's row, with the mark that it came from a string. -/
def litE (L b : Nat) : Ent L where
  bl := fun k => k = b
  P := fun w => w.heap[b]? = some (.cells litC 5 (2, 3)) ∧ L ≤ b
  fr := fun w w' h hP => ⟨(h b rfl).trans hP.1, hP.2⟩
  lo := fun w hP g hg => by subst hg; exact ⟨hP.2, (Array.getElem?_eq_some_iff.1 hP.1).1⟩
theorem lit_by {w : World} {b : Nat} (h : w.heap[b]? = some (.cells litC 5 (2, 3))) : By w (.slice (some ⟨b, 0, none⟩) 2 2) [97, 98] := by
  refine ⟨_, _, _, rfl, rfl, (fun e => by cases e), fun ad e j u hu => ?_⟩
  cases e
  rw [addr_add, Nat.zero_add, cell_of_row w b j litC 5 (2, 3) h]
  match j, hu with
  | 0, hu => exact hu
  | 1, hu => exact hu
  | j + 2, hu => simp at hu
theorem conv_lit (w : World) : (convert 38 38 (.slice (some ⟨w.heap.size, 0, none⟩) 2 2)).run Try.prog (w.alloc (.cells #[.int .u8 97, .int .u8 98] 5)) = .ok (.slice (some ⟨w.heap.size, 0, none⟩) 2 2) (w.alloc (.cells litC 5 (2, 3))) := Lib.run_convert_bytes_const w 38 5 litC 2 2 Try.underlying38 Try.underlying5
theorem held_new {L : Nat} (w : World) (p s : Nat) (x : DV) (h : DM L p s x w) : Held [dmE L p s x] w := ⟨fun e he => by rw [List.mem_singleton.1 he]; exact h, List.pairwise_singleton ..⟩
theorem open_fresh {L p s n : Nat} {R : List (Ent L)} (w : World) (h : Held (dmE L p s (fresh n) :: R) w) (hn : 1 ≤ n) (hn2 : n ≤ 65536) : Calls Try.prog 14 #[.pointer (some ⟨p, 0, none⟩)] w fun e w' => ∃ jb, e = .returned (.tuple #[.pointer (some ⟨jb, 0, none⟩), .int .i64 0]) ∧ Held ((jv0 p n).es L jb ++ (dmE L p s (fresh n) :: R)) w' ∧ Below w.heap.size w w' := open_none w h rfl hn hn2 (zero_none n).1 (zero_none n).2
set_option maxRecDepth 100000 in
set_option maxHeartbeats 400000 in
theorem able_yes (w : World) : Calls Try.prog 9 #[] w fun e w' => e = .returned (.bool true) ∧ Below w.heap.size w w' := by
  obtain ⟨H, hH⟩ : ∃ H, H = w.heap.size := ⟨_, rfl⟩
  have HN : Hid (Calls Try.prog 13 #[.int .i64 4] w fun e w' => ∃ x, x = fresh 4 ∧ e = .returned (.tuple #[.pointer (some ⟨H + 1, 0, none⟩), .int .i64 0]) ∧ Held [dmE H (H + 1) H x] w' ∧ Below H w w' ∧ H ≤ w'.heap.size) := by
    rw [hH]
    refine (new_yes 4 w (by omega)).mono ?_
    rintro e w' ⟨h1, h2, h3⟩
    exact ⟨_, rfl, h1, held_new w' _ _ _ h2, h3, h3.size⟩
  rw [← hH]
  clear hH
  go_enter Try.func9, Try.ntmps9
  go_wp2_with fail
  refine Calls.mono HN.out ?_
  rintro e w1 ⟨x, hx, rfl, h1, hb1, hs1⟩
  have HS1 : Hid (H ≤ w1.heap.size) := hs1
  clear hs1
  clear HN
  have HX : Hid (x = fresh 4) := hx
  have HO : Hid (Calls Try.prog 14 #[.pointer (some ⟨H + 1, 0, none⟩)] w1 fun e w' => ∃ jb y, y = jv0 (H + 1) 4 ∧ e = .returned (.tuple #[.pointer (some ⟨jb, 0, none⟩), .int .i64 0]) ∧ Held (JV.es H jb y ++ [dmE H (H + 1) H x]) w' ∧ Below H w w') := by
    rw [hx] at h1 ⊢
    refine (open_fresh w1 h1 (by omega) (by omega)).mono ?_
    rintro e w' ⟨jb, e1, e2, e3⟩
    exact ⟨jb, _, rfl, e1, e2, hb1.trans (e3.mono HS1.out)⟩
  clear h1 hb1 hx HS1
  go_wp2_with fail
  refine Calls.mono HO.out ?_
  rintro e w2 ⟨jb, y, hy, rfl, h2, hb2⟩
  clear HO
  have hy1 : y.recs.length = 0 ∧ y.next = 0 ∧ y.fin = 4 ∧ y.p = H + 1 := by rw [hy]; exact ⟨rfl, rfl, rfl, rfl⟩
  have HY : Hid (y = jv0 (H + 1) 4) := hy
  have H2 : Hid (Held (y.es H jb ++ [dmE H (H + 1) H x]) w2 ∧ Below H w w2) := ⟨h2, hb2⟩
  have HL : Hid (Calls Try.prog 30 #[.pointer (some ⟨jb, 0, none⟩)] w2 fun e w' => e = .returned (.int .i64 0) ∧ w' = w2) := by
    have := len_any w2 h2 (by omega)
    rw [hy1.1] at this
    exact this
  have HR : Hid (Calls Try.prog 18 #[.pointer (some ⟨jb, 0, none⟩)] w2 fun e w' => e = .returned (.int .i64 4) ∧ ∃ q, w' = w2.drewN q) := by
    have := room_any w2 h2 (by omega) (by omega)
    rw [hy1.2.1, hy1.2.2.1] at this
    exact this
  clear h2 hb2 hy hy1
  go_wp2_with fail
  refine Calls.mono HL.out ?_
  rintro e w3 ⟨rfl, hw3⟩
  replace hw3 := hw3.symm
  subst hw3
  clear HL
  go_wp2_with fail
  refine Calls.mono HR.out ?_
  rintro e w3 ⟨rfl, hq⟩
  have H3 : Hid (Held (y.es H jb ++ [dmE H (H + 1) H x]) w3 ∧ Below H w w3) := by
    obtain ⟨q, e⟩ := hq
    rw [Hid, e]
    exact ⟨H2.out.1.drewN q, below_dr H2.out.2 q⟩
  clear hq H2 HR
  have hcv := conv_lit w3
  obtain ⟨w4, hw4⟩ : ∃ w4, w4 = w3.alloc (.cells litC 5 (2, 3)) := ⟨_, rfl⟩
  obtain ⟨lb, hlb⟩ : ∃ lb, lb = w3.heap.size := ⟨_, rfl⟩
  have hb4 : Below w3.heap.size w3 w4 := by rw [hw4]; exact (Below.refl _ _).alloc (Nat.le_refl _) _
  have hB4 : w4.heap[lb]? = some (.cells litC 5 (2, 3)) := by rw [hw4, hlb]; exact heap_alloc_new w3 _
  have hlow : H ≤ w3.heap.size := jlow H3.out.1
  have h4 : Held (y.es H jb ++ (dmE H (H + 1) H x :: [litE H lb])) w4 := by
    have h5 : Held (litE H lb :: (y.es H jb ++ [dmE H (H + 1) H x])) w4 := Held.fresh H3.out.1 hb4 ⟨hB4, by omega⟩ (fun k hk => by
      have : k = lb := hk
      omega)
    exact h5.perm (by
      have := List.perm_append_comm (l₁ := [litE H lb]) (l₂ := y.es H jb ++ [dmE H (H + 1) H x])
      simpa using this)
  have hy1 : y.recs.length = 0 ∧ y.next = 0 ∧ y.fin = 4 ∧ y.p = H + 1 := by rw [HY.out]; exact ⟨rfl, rfl, rfl, rfl⟩
  have hx1 : x.off = false ∧ x.armed = false ∧ x.whole = 0 ∧ x.writes = 0 ∧ x.n = 4 := by rw [HX.out]; exact ⟨rfl, rfl, rfl, rfl, rfl⟩
  have HAP : Hid (Calls Try.prog 16 #[.pointer (some ⟨jb, 0, none⟩), .slice (some ⟨lb, 0, none⟩) 2 2] w4 fun e w' => e = .returned (.int .i64 0) ∧ ∃ rv' v', Held ((y.added rv' v' [97, 98]).es H jb ++ (dmE H (H + 1) H (wroteX x 1 0 [97, 98] 1) :: [litE H lb])) w' ∧ Below H w4 w') := by
    have h6 := append_ok (L := H) (jb := jb) (s := H) (y := y) (x := x) (n := 2) (c := 2) (bs := [97, 98]) w4 (by rw [hy1.2.2.2]; exact h4) (fun W _ hR => lit_by (hR.all (litE H lb) (by simp)).1) (by omega) (by omega) hx1.1 hx1.2.1 (by omega) (by omega) (by omega) (by rw [hy1.2.1, hy1.2.2.1]; decide) (by omega) (by omega)
    rw [hy1.1, hy1.2.1, hy1.2.2.2] at h6
    exact h6
  have H4 : Hid (Below H w w4) := H3.out.2.trans (hb4.mono hlow)
  clear hb4 hB4 hlow h4 hy1 hx1 H3
  rw [← hw4] at hcv
  go_wp2_with fail
  try rw [← hw4]
  try rw [← hlb]
  refine Calls.mono HAP.out ?_
  rintro e w5 ⟨rfl, rv', v', h5, hb5⟩
  clear HAP hw4 hlb
  have hy1 : y.recs = [] := by rw [HY.out]; rfl
  obtain ⟨z, hz⟩ : ∃ z, z = y.added rv' v' [97, 98] := ⟨_, rfl⟩
  rw [← hz] at h5
  have hzr : z.recs = [(v', [97, 98])] := by rw [hz]; show y.recs ++ _ = _; rw [hy1]; rfl
  obtain ⟨x', hx'⟩ : ∃ x', x' = wroteX x 1 0 [97, 98] 1 := ⟨_, rfl⟩
  rw [← hx'] at h5
  have hxx : x' = xAb := by rw [hx', HX.out]; rfl
  have hxo : x'.off = false ∧ x'.n = 4 := by rw [hxx]; exact ⟨by kernel_rfl, by kernel_rfl⟩
  have HAT : Hid (Calls Try.prog 31 #[.pointer (some ⟨jb, 0, none⟩), .int .i64 0] w5 fun e w' => ∃ v', e = .returned (.tuple #[v', .int .i64 0]) ∧ By w' v' [97, 98] ∧ Below w5.heap.size w5 w') := by
    refine (at_yes (i := 0) (d := (v', [97, 98])) w5 h5 (by rw [hzr]; rfl) (show 2 ≤ 8192 by decide) (by rw [hzr]; show 1 ≤ 100000; decide)).mono ?_
    rintro e w' ⟨v', e1, e2, e3⟩
    exact ⟨v', e1, own_by e2, e3⟩
  have H5 : Hid (Held (z.es H jb ++ (dmE H (H + 1) H x' :: [litE H lb])) w5 ∧ Below H w w5 ∧ z.recs.length = 1 ∧ x'.off = false ∧ x'.n = 4 ∧ H ≤ w5.heap.size) := ⟨h5, H4.out.trans hb5, by rw [hzr]; rfl, hxo.1, hxo.2, jlow h5⟩
  have HXX : Hid (x' = xAb) := hxx
  clear h5 hb5 hz hzr hx' hxx hxo hy1 H4
  go_wp2_with fail
  refine Calls.mono HAT.out ?_
  rintro e w6 ⟨bv, rfl, hby6, hb6⟩
  clear HAT
  have h6 := H5.out.1.more hb6
  have HRD : Hid (Calls Try.prog 32 #[.pointer (some ⟨H + 1, 0, none⟩), .int .i64 0] w6 fun e w' => ∃ g c, e = .returned (.tuple #[.slice (some ⟨g, 0, none⟩) 512 c, .int .i64 0]) ∧ w'.cell? ⟨g, 0, none⟩ = some (.int .u8 1) ∧ w'.cell? ⟨g, 511, none⟩ = some (.int .u8 2) ∧ w'.cell? ⟨g, 8, none⟩ = some (.int .u8 97) ∧ Below w6.heap.size w6 w') := by
    refine (read_yes 0 w6 (h1d h6) H5.out.2.2.2.1 (by rw [H5.out.2.2.2.2.1]; decide)).mono ?_
    rintro e w' ⟨sv, rfl, e2, e3⟩
    have hget : ∀ j (hj : j < 512) (u : UInt8), (secL x'.b 0).getD j 0 = u → (secL x'.b 0)[j]? = some u := fun j hj u hu => by
      rw [List.getD_eq_getElem?_getD, List.getElem?_eq_getElem (by rw [secL_len]; exact hj)] at hu
      rw [List.getElem?_eq_getElem (by rw [secL_len]; exact hj), ← hu]; rfl
    rcases id e2.2 with ⟨_, e4⟩ | ⟨g, c, cur, e4, _⟩
    · omega
    · subst e4
      have hcell : ∀ j (u : UInt8), (secL x'.b 0)[j]? = some u → w'.cell? ⟨g, j, none⟩ = some (B u) := fun j u hu => by
        have := e2.cells (g := g) rfl j (B u) (by rw [List.getElem?_map, hu]; rfl)
        rwa [addr_add, Nat.zero_add] at this
      have h3 := xAb0
      rw [← HXX.out] at h3
      exact ⟨g, c, rfl, hcell 0 1 (hget 0 (by omega) 1 h3.1), hcell 511 2 (hget 511 (by omega) 2 h3.2.1), hcell 8 97 (hget 8 (by omega) 97 h3.2.2), e3⟩
  have H6 : Hid (Held (z.es H jb ++ (dmE H (H + 1) H x' :: [litE H lb])) w6 ∧ Below H w w6 ∧ By w6 bv [97, 98] ∧ z.recs.length = 1 ∧ H ≤ w6.heap.size) := ⟨h6, H5.out.2.1.trans (hb6.mono H5.out.2.2.2.2.2), hby6, H5.out.2.2.1, jlow h6⟩
  clear hby6 hb6 h6 H5
  go_wp2_with fail
  refine Calls.mono HRD.out ?_
  rintro e w7 ⟨g, c, rfl, s0, s511, s8, hb7⟩
  clear HRD
  have h7 := H6.out.1.more hb7
  have H7 : Hid (Held (z.es H jb ++ (dmE H (H + 1) H x' :: [litE H lb])) w7 ∧ Below H w w7 ∧ By w7 bv [97, 98] ∧ z.recs.length = 1 ∧ H ≤ w7.heap.size) := ⟨h7, H6.out.2.1.trans (hb7.mono H6.out.2.2.2.2), H6.out.2.2.1.keep hb7, H6.out.2.2.2.1, jlow h7⟩
  have hcv7 := conv_lit w7
  obtain ⟨w8, hw8⟩ : ∃ w8, w8 = w7.alloc (.cells litC 5 (2, 3)) := ⟨_, rfl⟩
  obtain ⟨l2, hl2⟩ : ∃ l2, l2 = w7.heap.size := ⟨_, rfl⟩
  have hb8 : Below w7.heap.size w7 w8 := by rw [hw8]; exact (Below.refl _ _).alloc (Nat.le_refl _) _
  have hB8 : w8.heap[l2]? = some (.cells litC 5 (2, 3)) := by rw [hw8, hl2]; exact heap_alloc_new w7 _
  have HSM : Hid (Calls Try.prog 27 #[bv, .slice (some ⟨l2, 0, none⟩) 2 2] w8 fun e w' => e = .returned (.bool true) ∧ w' = w8) := by
    have h9 := same_any w8 (H7.out.2.2.1.keep hb8) (lit_by hB8)
    exact h9
  have HLE : Hid (Calls Try.prog 30 #[.pointer (some ⟨jb, 0, none⟩)] w8 fun e w' => e = .returned (.int .i64 1) ∧ w' = w8) := by
    have h9 := len_any w8 (H7.out.1.more hb8) (by rw [H7.out.2.2.2.1]; decide)
    rw [H7.out.2.2.2.1] at h9
    exact h9
  have t0 : w8.cell? ⟨g, 0, none⟩ = some (.int .u8 1) := (hb8.cell (World.block_lt_of_cell? _ _ s0)).trans s0
  have t511 : w8.cell? ⟨g, 511, none⟩ = some (.int .u8 2) := (hb8.cell (World.block_lt_of_cell? _ _ s511)).trans s511
  have t8 : w8.cell? ⟨g, 8, none⟩ = some (.int .u8 97) := (hb8.cell (World.block_lt_of_cell? _ _ s8)).trans s8
  have HF : Hid (Below H w w8) := H7.out.2.1.trans (hb8.mono H7.out.2.2.2.2)
  obtain ⟨bo, bn, bc, hbv, _⟩ := id H7.out.2.2.1
  subst hbv
  clear s0 s511 s8 hb7 h7 hb8 hB8 H6 H7
  rw [← hw8] at hcv7
  go_wp2_with fail
  try rw [← hw8]
  try rw [← hl2]
  refine Calls.mono HSM.out ?_
  rintro e wa ⟨rfl, hwa⟩
  replace hwa := hwa.symm
  subst hwa
  clear HSM hw8 hl2
  go_wp2_with fail
  refine Calls.mono HLE.out ?_
  rintro e wa ⟨rfl, hwa⟩
  replace hwa := hwa.symm
  subst hwa
  clear HLE
  go_wp2_with fail
  go_ret
  exact ⟨rfl, HF.out⟩
end Go.Proofs.Ytcnokgphioigoaa
namespace Go.Proofs.Ytcnokgphioigoaa
open Go.RowKit Go.PlainAid
set_option linter.unusedVariables false
set_option linter.unusedSimpArgs false
/-- A journal of records of one length. -/
structure JF (L jb p s S n i : Nat) (w : World) : Prop where
  h : ∃ (y : JV) (x : DV), Held (y.es L jb ++ [dmE L p s x]) w ∧ y.p = p ∧ y.fin = S ∧ y.recs.length = i ∧ y.next = kS n * i ∧ x.off = false ∧ x.armed = false ∧ x.whole = 0 ∧ x.writes = kS n * i ∧ x.n = S
theorem JF.app {L jb p s S n i : Nat} {w : World} (h : JF L jb p s S n i w) (hn : n ≤ 8192) (hS : S ≤ 60) (hi : kS n * (i + 1) ≤ S) {R : Array Value} (hR : R.size = n) (hz : ∀ j, j < n → R[j]? = some (B 0)) :
    Calls Try.prog 16 #[.pointer (some ⟨jb, 0, none⟩), .slice (some ⟨w.heap.size, 0, none⟩) n n] (w.alloc (.cells R 5)) fun e w' => e = .returned (.int .i64 0) ∧ JF L jb p s S n (i + 1) w' ∧ Below L w w' := by
  obtain ⟨y, x, h1, e1, e2, e3, e4, e5, e6, e7, e8, e9⟩ := h.h
  subst e1
  have hb : Below w.heap.size w (w.alloc (.cells R 5)) := (Below.refl _ _).alloc (Nat.le_refl _) _
  have hL := jlow h1
  have hk := kS_pos n
  have hki : i ≤ kS n * i := Nat.le_mul_of_pos_left i hk
  have hkm : kS n * (i + 1) = kS n * i + kS n := by rw [Nat.mul_add, Nat.mul_one]
  have ho : (w.alloc (.cells R 5)).ownsRow L 5 1 (.slice (some ⟨w.heap.size, 0, none⟩) n n) n ((List.replicate n (0 : UInt8)).map B) := own_blk (heap_alloc_new w _) hL hR (by unfold maxLen; omega) (fun j hj => by rw [hz j hj, List.getD_eq_getElem?_getD, List.getElem?_replicate, if_pos hj]; rfl) (List.length_replicate ..)
  have h2 : Held (y.es L jb ++ (dmE L y.p s x :: [datE L (.slice (some ⟨w.heap.size, 0, none⟩) n n, List.replicate n 0)])) (w.alloc (.cells R 5)) := by
    have h3 : Held (datE L (.slice (some ⟨w.heap.size, 0, none⟩) n n, List.replicate n 0) :: (y.es L jb ++ [dmE L y.p s x])) (w.alloc (.cells R 5)) := Held.fresh h1 hb (show _ from by show World.ownsRow _ L 5 1 _ (List.replicate n (0 : UInt8)).length _; rw [List.length_replicate]; exact ho) (fun k hk => by
      have : w.heap.size = k := by simpa [datE, rowE, Value.ownBlock] using hk
      omega)
    exact h3.perm (by
      have := List.perm_append_comm (l₁ := [datE L (.slice (some ⟨w.heap.size, 0, none⟩) n n, List.replicate n 0)]) (l₂ := y.es L jb ++ [dmE L y.p s x])
      simpa using this)
  refine (append_ok (R := [datE L (.slice (some ⟨w.heap.size, 0, none⟩) n n, List.replicate n 0)]) (bs := List.replicate n 0) (w.alloc (.cells R 5)) h2 (fun W _ hR => own_by (hR.all (datE L (.slice (some ⟨w.heap.size, 0, none⟩) n n, List.replicate n 0)) (by simp))) (Nat.le_refl _) hn e5 e6 (by omega) (by omega) (by omega) (by omega) (by omega) (by omega)).mono ?_
  rintro e w' ⟨f1, rv', v', f2, f3⟩
  have hw := wroteX_facts x (y.recs.length + 1) y.next (List.replicate n 0) e6 (kS n)
  refine ⟨f1, ⟨_, _, Held.subl f2 (List.Sublist.append (List.Sublist.refl _) (List.Sublist.cons_cons _ (List.nil_sublist _))), rfl, e2, ?_, ?_, by rw [hw.1]; exact e5, hw.2.2.1, by rw [hw.2.2.2.1]; exact e7, ?_, by rw [hw.2.1]; exact e9⟩, (hb.mono hL).trans f3⟩
  · show (y.recs ++ [(v', List.replicate n 0)]).length = i + 1
    rw [List.length_append, e3]; rfl
  · show y.next + kS (List.replicate n (0 : UInt8)).length = kS n * (i + 1)
    rw [List.length_replicate, e4]; omega
  · rw [hw.2.2.2.2, e8]; omega
theorem JF.full {L jb p s S n i : Nat} {w : World} (h : JF L jb p s S n i w) (hn : n ≤ 8192) (hS : S ≤ 60) (hi : S < kS n * (i + 1)) (hi2 : kS n * i ≤ S) {R : Array Value} (hR : R.size = n) (hz : ∀ j, j < n → R[j]? = some (B 0)) :
    Calls Try.prog 16 #[.pointer (some ⟨jb, 0, none⟩), .slice (some ⟨w.heap.size, 0, none⟩) n n] (w.alloc (.cells R 5)) fun e w' => e = .returned (.int .i64 211) ∧ JF L jb p s S n i w' ∧ Below L w w' := by
  obtain ⟨y, x, h1, e1, e2, e3, e4, e5, e6, e7, e8, e9⟩ := h.h
  subst e1
  have hb : Below w.heap.size w (w.alloc (.cells R 5)) := (Below.refl _ _).alloc (Nat.le_refl _) _
  have hL := jlow h1
  have hk := kS_pos n
  have hki : i ≤ kS n * i := Nat.le_mul_of_pos_left i hk
  have hkm : kS n * (i + 1) = kS n * i + kS n := by rw [Nat.mul_add, Nat.mul_one]
  have ho : (w.alloc (.cells R 5)).ownsRow L 5 1 (.slice (some ⟨w.heap.size, 0, none⟩) n n) n ((List.replicate n (0 : UInt8)).map B) := own_blk (heap_alloc_new w _) hL hR (by unfold maxLen; omega) (fun j hj => by rw [hz j hj, List.getD_eq_getElem?_getD, List.getElem?_replicate, if_pos hj]; rfl) (List.length_replicate ..)
  have h2 : Held (y.es L jb ++ (dmE L y.p s x :: [datE L (.slice (some ⟨w.heap.size, 0, none⟩) n n, List.replicate n 0)])) (w.alloc (.cells R 5)) := by
    have h3 : Held (datE L (.slice (some ⟨w.heap.size, 0, none⟩) n n, List.replicate n 0) :: (y.es L jb ++ [dmE L y.p s x])) (w.alloc (.cells R 5)) := Held.fresh h1 hb (show _ from by show World.ownsRow _ L 5 1 _ (List.replicate n (0 : UInt8)).length _; rw [List.length_replicate]; exact ho) (fun k hk => by
      have : w.heap.size = k := by simpa [datE, rowE, Value.ownBlock] using hk
      omega)
    exact h3.perm (by
      have := List.perm_append_comm (l₁ := [datE L (.slice (some ⟨w.heap.size, 0, none⟩) n n, List.replicate n 0)]) (l₂ := y.es L jb ++ [dmE L y.p s x])
      simpa using this)
  refine (append_space (R := [datE L (.slice (some ⟨w.heap.size, 0, none⟩) n n, List.replicate n 0)]) (bs := List.replicate n 0) (w.alloc (.cells R 5)) h2 (fun W _ hR => own_by (hR.all (datE L (.slice (some ⟨w.heap.size, 0, none⟩) n n, List.replicate n 0)) (by simp))) (Nat.le_refl _) hn e5 e6 (by omega) (by omega) (by omega) (by omega) (by omega) (by omega) (by omega)).mono ?_
  rintro e w' ⟨f1, f2, f3⟩
  exact ⟨f1, ⟨y, x, Held.subl f2 (List.Sublist.append (List.Sublist.refl _) (List.Sublist.cons_cons _ (List.nil_sublist _))), rfl, e2, e3, e4, e5, e6, e7, e8, e9⟩, (hb.mono hL).trans f3⟩
theorem JF.room {L jb p s S n i : Nat} {w : World} (h : JF L jb p s S n i w) (hS : S ≤ 60) (hi : kS n * i ≤ S) : Calls Try.prog 18 #[.pointer (some ⟨jb, 0, none⟩)] w fun e w' => e = .returned (.int .i64 ((S - kS n * i : Nat) : Int)) ∧ ∃ q, w' = w.drewN q := by
  obtain ⟨y, x, h1, e1, e2, e3, e4, e5, e6, e7, e8, e9⟩ := h.h
  have := room_any w h1 (by omega) (by omega)
  rw [e2, e4] at this
  exact this
set_option maxRecDepth 100000 in
set_option maxHeartbeats 3200000 in
theorem spaces_any {L0 S n m M : Nat} {lo : Option Addr} {lc : Nat} (w : World) (hrow : w.ownsRow L0 3 1 (.slice lo M lc) M ((List.replicate M (n : Int)).map I)) (hS1 : 1 ≤ S) (hS : S ≤ 60) (hn : n ≤ 8192) (hm : kS n * m ≤ S) (hM : M = m ∨ (M = m + 1 ∧ S < kS n * (m + 1))) (zz rr : Int) (hzz : zz = if M ≤ m then 0 else 211) (hrr : rr = ((S - kS n * m : Nat) : Int)) :
    Calls Try.prog 11 #[.int .i64 (S : Int), .slice lo M lc] w fun e w' => e = .returned (.tuple #[.int .i64 rr, .int .i64 zz, .bool true]) ∧ Below w.heap.size w w' := by
  have HZZ : Hid (zz = (if M ≤ m then 0 else 211) ∧ rr = ((S - kS n * m : Nat) : Int)) := ⟨hzz, hrr⟩
  clear hzz hrr
  have hMb : M ≤ 100 := by
    have := kS_pos n
    have : m ≤ kS n * m := Nat.le_mul_of_pos_left m this
    omega
  obtain ⟨H, hH⟩ : ∃ H, H = w.heap.size := ⟨_, rfl⟩
  have HRW : Hid (∀ W, Below H w W → ∀ i, i < M → ∃ g o, lo = some ⟨g, o, none⟩ ∧ W.cell? ⟨g, o + i, none⟩ = some (.int .i64 (n : Int))) := fun W hW i hi => by
    have h1 : W.ownsRow L0 3 1 (.slice lo M lc) M ((List.replicate M (n : Int)).map I) := ownsRow_same hrow (fun g hg => hW.block g (by rw [hH]; exact (ownsRow_lt hrow hg).2))
    obtain ⟨g, o, c, e, hc⟩ := tail_at (tail_own h1) (i := i) (u := I (n : Int)) (by rw [List.getElem?_map, List.getElem?_replicate, if_pos hi]; rfl)
    cases e
    exact ⟨g, o, rfl, hc⟩
  have HN : Hid (Calls Try.prog 13 #[.int .i64 (S : Int)] w fun e w' => e = .returned (.tuple #[.pointer (some ⟨H + 1, 0, none⟩), .int .i64 0]) ∧ Held [dmE H (H + 1) H (fresh S)] w' ∧ Below H w w' ∧ H ≤ w'.heap.size) := by
    rw [hH]
    refine (new_yes S w (by omega)).mono ?_
    rintro e w' ⟨h1, h2, h3⟩
    exact ⟨h1, held_new w' _ _ _ h2, h3, h3.size⟩
  have HHH : Hid (H = w.heap.size) := hH
  have HM : Hid (M = m ∨ (M = m + 1 ∧ S < kS n * (m + 1))) := hM
  have HB : Hid (kS n * m ≤ S ∧ 1 ≤ S ∧ S ≤ 60 ∧ n ≤ 8192) := ⟨hm, hS1, hS, hn⟩
  rw [← hH]
  clear hrow hH hM hm hS1
  go_enter Try.func11, Try.ntmps11
  go_wp2_with fail
  refine Calls.mono HN.out ?_
  rintro e w1 ⟨rfl, h1, hb1, hs1⟩
  clear HN
  have HO : Hid (Calls Try.prog 14 #[.pointer (some ⟨H + 1, 0, none⟩)] w1 fun e w' => ∃ jb, e = .returned (.tuple #[.pointer (some ⟨jb, 0, none⟩), .int .i64 0]) ∧ JF H jb (H + 1) H S n 0 w' ∧ Below H w w') := by
    refine (open_fresh w1 h1 HB.out.2.1 (by omega)).mono ?_
    rintro e w' ⟨jb, e1, e2, e3⟩
    exact ⟨jb, e1, ⟨_, _, e2, rfl, rfl, rfl, rfl, rfl, rfl, rfl, rfl, rfl⟩, hb1.trans (e3.mono hs1)⟩
  clear h1 hb1 hs1
  go_wp2_with fail
  refine Calls.mono HO.out ?_
  rintro e w2 ⟨jb, rfl, h2, hb2⟩
  clear HO
  have H2 : Hid (JF H jb (H + 1) H S n 0 w2 ∧ Below H w w2) := ⟨h2, hb2⟩
  clear h2 hb2
  go_wp2_with fail
  go_loopw [11, 12] (fun s11 s12 wr => ∃ i : Nat, i ≤ M ∧ s12 = .int .i64 (i : Int) ∧ s11 = .int .i64 (if i ≤ m then 0 else 211) ∧ JF H jb (H + 1) H S n (min i m) wr ∧ Below H w wr) (fun _ s12 _ => M - (intOf s12).toNat)
  case atStart => exact ⟨0, Nat.zero_le _, rfl, by simp, by rw [Nat.zero_min]; exact H2.out.1, H2.out.2⟩
  case round =>
    clear H2
    obtain ⟨i, hi, rfl, rfl, hJ, hb⟩ := hrel
    by_cases hlt : i < M
    · obtain ⟨g, o, e1, hc⟩ := HRW.out wr hb i hlt
      subst e1
      obtain ⟨R, hmk, hRs, hRa⟩ := mk_bytes n (by omega) wr
      have HAP : Hid (Calls Try.prog 16 #[.pointer (some ⟨jb, 0, none⟩), .slice (some ⟨wr.heap.size, 0, none⟩) n n] (wr.alloc (.cells R 5)) fun e w' => e = .returned (.int .i64 (if i + 1 ≤ m then 0 else 211)) ∧ JF H jb (H + 1) H S n (min (i + 1) m) w' ∧ Below H w w') := by
        by_cases him : i + 1 ≤ m
        · rw [if_pos him, Nat.min_eq_left him]
          rw [Nat.min_eq_left (by omega)] at hJ
          refine (hJ.app hn hS (Nat.le_trans (Nat.mul_le_mul_left _ him) HB.out.1) hRs hRa).mono ?_
          rintro e w' ⟨f1, f2, f3⟩
          exact ⟨f1, f2, hb.trans f3⟩
        · have him2 : i = m := by have := HM.out; omega
          rw [if_neg him, Nat.min_eq_right (by omega)]
          rw [Nat.min_eq_right (by omega)] at hJ
          refine (hJ.full hn hS (by have := HM.out; rcases this with h9 | h9; omega; exact h9.2) HB.out.1 hRs hRa).mono ?_
          rintro e w' ⟨f1, f2, f3⟩
          exact ⟨f1, f2, hb.trans f3⟩
      obtain ⟨z1, hz1⟩ : ∃ z1 : Int, z1 = if i + 1 ≤ m then 0 else 211 := ⟨_, rfl⟩
      rw [← hz1] at HAP
      have HZ : Hid (z1 = if i + 1 ≤ m then 0 else 211) := hz1
      clear hz1 hRs hRa hJ hb
      generalize (if i ≤ m then (0 : Int) else 211) = z0
      go_wp2_with fail
      refine Calls.mono HAP.out ?_
      rintro e w3 ⟨rfl, hJ3, hb3⟩
      have H3 : Hid (JF H jb (H + 1) H S n (min (i + 1) m) w3 ∧ Below H w w3) := ⟨hJ3, hb3⟩
      clear HAP hJ3 hb3 hmk hc
      go_wp2_with fail
      go_roundw
      case rel => exact ⟨i + 1, by omega, by go_num, by rw [HZ.out], H3.out.1, H3.out.2⟩
      case measure => simp [intOf]; omega
    · have hin : ¬ ((i : Int) < (M : Int)) := by omega
      have hiM : i = M := by omega
      rw [hiM] at hJ
      have hmin : min M m = m := by have := HM.out; omega
      rw [hmin] at hJ
      have HR : Hid _ := hJ.room hS HB.out.1
      have HBB : Hid (Below H w wr) := hb
      obtain ⟨z1, hz1⟩ : ∃ z1 : Int, z1 = if M ≤ m then 0 else 211 := ⟨_, rfl⟩
      have HZ : Hid ((if i ≤ m then (0 : Int) else 211) = z1 ∧ z1 = if M ≤ m then 0 else 211) := ⟨by rw [hz1, hiM], hz1⟩
      rw [HZ.out.1]
      obtain ⟨rm, hrm⟩ : ∃ rm : Int, rm = ((S - kS n * m : Nat) : Int) := ⟨_, rfl⟩
      have HRM : Hid (rm = ((S - kS n * m : Nat) : Int)) := hrm
      rw [← hrm] at HR
      clear hJ hb hiM hmin hz1 hrm
      go_wp2_with fail
      refine Calls.mono HR.out ?_
      rintro e w4 ⟨rfl, hq⟩
      have HF : Hid (Below H w w4) := by
        obtain ⟨q, e⟩ := hq
        rw [Hid, e]
        exact below_dr HBB.out q
      clear HR hq HBB
      go_wp2_with fail
      go_ret3
      refine ⟨?_, HF.out⟩
      show Ending.returned (.tuple #[.int .i64 rm, .int .i64 z1, .bool true]) = _
      rw [HRM.out, HZ.out.2, HZZ.out.1, HZZ.out.2]
end Go.Proofs.Ytcnokgphioigoaa
namespace Go.Proofs.Ytcnokgphioigoaa
open Go.ChangeShapes Go.WideShapes Go.ChangeAt Go.RowKit Go.WideMaps Go.WideElems Go.PlainAid
set_option linter.unusedVariables false
set_option linter.unusedSimpArgs false
/-- A journal with its disk. -/
structure JD where
  jb : Nat
  s : Nat
  y : JV
  x : DV
def JD.es (L : Nat) (a : JD) : List (Ent L) := a.y.es L a.jb ++ [dmE L a.y.p a.s a.x]
def JD.ls (a : JD) : List (List UInt8) := a.y.recs.map Prod.snd
structure JD.Ok (i : Nat) (a : JD) : Prop where
  off : a.x.off = false
  armed : a.x.armed = false
  whole : a.x.whole = 0
  writes : a.x.writes ≤ 17 * i
  recs : a.y.recs.length ≤ i
  next : a.y.next ≤ 17 * i
  fin : a.y.fin = 300
  n : a.x.n = 300
  le : ∀ d ∈ a.y.recs, d.2.length ≤ 8192
def apC (bs : List UInt8) : Int := if bs.length ≤ 8192 then 0 else 2
def apL (bs : List UInt8) : List (List UInt8) := if bs.length ≤ 8192 then [bs] else []
def apN (bs : List UInt8) : Nat := if bs.length ≤ 8192 then kS bs.length else 0
theorem JD.Ok.up {i : Nat} {a : JD} (h : a.Ok i) : a.Ok (i + 1) := ⟨h.off, h.armed, h.whole, by have := h.writes; omega, by have := h.recs; omega, by have := h.next; omega, h.fin, h.n, h.le⟩
theorem jd_append {L i : Nat} {a : JD} {R : List (Ent L)} {vo : Option Addr} {n c : Nat} {bs : List UInt8} (w : World) (h : Held (a.es L ++ R) w) (hok : a.Ok i) (hi : i < 12) (hb : ∀ W, Below L w W → Held R W → By W (.slice vo n c) bs) (hc : n ≤ c) (hn : n ≤ 140737488355328) :
    Calls Try.prog 16 #[.pointer (some ⟨a.jb, 0, none⟩), .slice vo n c] w fun e w' => e = .returned (.int .i64 (apC bs)) ∧ ∃ a' : JD, a'.jb = a.jb ∧ Held (a'.es L ++ R) w' ∧ a'.Ok (i + 1) ∧ a'.ls = a.ls ++ apL bs ∧ a'.y.next = a.y.next + apN bs ∧ Below L w w' := by
  have h' : Held (a.y.es L a.jb ++ (dmE L a.y.p a.s a.x :: R)) w := by simpa [JD.es, List.append_assoc] using h
  have hbl : bs.length = n := by
    obtain ⟨_, _, _, e, e2, _⟩ := hb w (Below.refl _ _) (Held.drop (Held.tailR h'))
    cases e; exact e2
  by_cases h8 : n ≤ 8192
  · have hk := kS_le n h8
    have hx := hok.next
    have e1 : apC bs = 0 := by unfold apC; rw [if_pos (by omega)]
    have e2 : apL bs = [bs] := by unfold apL; rw [if_pos (by omega)]
    have e3 : apN bs = kS n := by unfold apN; rw [if_pos (by omega), hbl]
    rw [e1, e2, e3]
    refine (append_ok w h' hb hc h8 hok.off hok.armed (by rw [hok.whole]; omega) (by have := hok.writes; omega) (by have := hok.recs; omega) (by rw [hok.fin]; omega) (by rw [hok.fin, hok.n]) (by rw [hok.n]; omega)).mono ?_
    rintro e w' ⟨rfl, rv', v', h1, h2⟩
    have hw := wroteX_facts a.x (a.y.recs.length + 1) a.y.next bs hok.armed (kS n)
    refine ⟨rfl, ⟨a.jb, a.s, a.y.added rv' v' bs, wroteX a.x (a.y.recs.length + 1) a.y.next bs (kS n)⟩, rfl, by simpa [JD.es, List.append_assoc, JV.added] using h1, ⟨hw.1.trans hok.off, hw.2.2.1, hw.2.2.2.1.trans hok.whole, ?_, ?_, ?_, hok.fin, hw.2.1.trans hok.n, fun d hd => ?_⟩, ?_, ?_, h2⟩
    · show (wroteX a.x (a.y.recs.length + 1) a.y.next bs (kS n)).writes ≤ _
      rw [hw.2.2.2.2]
      have := hok.writes
      omega
    · show (a.y.recs ++ [(v', bs)]).length ≤ _
      have := hok.recs
      simp; omega
    · show a.y.next + kS bs.length ≤ _
      rw [hbl]; omega
    · rcases List.mem_append.1 hd with h3 | h3
      · exact hok.le d h3
      · rw [List.mem_singleton.1 h3]; show bs.length ≤ 8192; omega
    · show (a.y.recs ++ [(v', bs)]).map Prod.snd = _
      rw [List.map_append]; rfl
    · show a.y.next + kS bs.length = _
      rw [hbl]
  · have e1 : apC bs = 2 := by unfold apC; rw [if_neg (by omega)]
    have e2 : apL bs = [] := by unfold apL; rw [if_neg (by omega)]
    have e3 : apN bs = 0 := by unfold apN; rw [if_neg (by omega)]
    rw [e1, e2, e3]
    refine (append_long w h' (by omega) (by omega) hok.off).mono ?_
    rintro e w' ⟨rfl, h1, h2⟩
    exact ⟨rfl, a, rfl, by simpa [JD.es, List.append_assoc] using h1, hok.up, by simp, rfl, h2⟩
theorem DM.low {L L' p s : Nat} {x : DV} {w : World} (h : DM L p s x w) (hl : L' ≤ L) : DM L' p s x w := ⟨h.box, h.sec, ⟨Nat.le_trans hl h.lo.1, Nat.le_trans hl h.lo.2⟩, h.nb⟩
/-- A list that came in. -/
def RowsA (w : World) (v : Value) (ls : List (List UInt8)) : Prop := ∃ ao c, v = .slice ao ls.length c ∧ ls.length ≤ 9223372036854775807 ∧ ∀ i bs, ls[i]? = some bs → ∃ b off uo k uc, ao = some ⟨b, off, none⟩ ∧ w.cell? ⟨b, off + i, none⟩ = some (.slice uo k uc) ∧ By w (.slice uo k uc) bs ∧ k ≤ uc ∧ bs.length ≤ 140737488351232
theorem RowsA.more {w w' : World} {v : Value} {ls : List (List UInt8)} (h : RowsA w v ls) (hb : Below w.heap.size w w') : RowsA w' v ls := by
  obtain ⟨ao, c, h1, h0, h2⟩ := h
  refine ⟨ao, c, h1, h0, fun i bs hi => ?_⟩
  obtain ⟨b, off, uo, k, uc, e1, e2, e3, e4, e5⟩ := h2 i bs hi
  exact ⟨b, off, uo, k, uc, e1, (hb.cell (World.block_lt_of_cell? _ _ e2)).trans e2, e3.keep hb, e4, e5⟩
section
variable {H : Type} {enc : TypeId × Value → H} {W : World} {fuel : Nat} {cs : List Value} {x : DataW H × List MemPlace}
set_option maxRecDepth 100000
set_option maxHeartbeats 1600000
theorem t_bytesA (h : DataW.trod enc Try.prog W 0 (fun _ => true) true fuel 38 cs = some x) (hw : ∀ n ∈ x.1.weights Try.prog 38, n ≤ reachBytes) : ∃ d : Dv, cs = [d.v] ∧ (∃ uo k uc, d.v = .slice uo k uc ∧ k ≤ uc) ∧ By W d.v d.s ∧ d.s.length ≤ reachBytes := by
  obtain ⟨d, h1, h2, h3⟩ := t_bytes h hw
  refine ⟨d, h1, ?_, h2, h3⟩
  rcases open_ints Try.underlying38 Try.underlying5 cells5 h with ⟨hcs, hx⟩ | ⟨a, len, cap, zs, hcs, _, hl, hm, hz, hx, hcell, hwz⟩
  · rw [hcs] at h1
    have e : Value.slice none 0 0 = d.v := by simpa [lits] using h1
    exact ⟨none, 0, 0, e.symm, Nat.le_refl _⟩
  · rw [hcs] at h1
    have e : Value.slice (some a) len cap = d.v := by simpa [lits] using h1
    exact ⟨some a, len, cap, e.symm, by omega⟩
theorem rows_of {ao : Option Addr} {N cap : Nat} {os : List Dv} (hl : os.length = N) (hcm : N ≤ cap ∧ cap ≤ maxLen) (hok : ∀ o ∈ os, (∃ uo k uc, o.v = .slice uo k uc ∧ k ≤ uc) ∧ By W o.v o.s ∧ o.s.length ≤ reachBytes) (hr : 0 < N → ∃ b off, ao = some ⟨b, off, none⟩ ∧ ∀ i o, os[i]? = some o → RowAt W b (off + i * 1) [o.v]) :
    RowsA W (.slice ao N cap) (os.map Dv.s) := by
  refine ⟨ao, cap, by rw [List.length_map, hl], by rw [List.length_map, hl]; have := hcm.1; have := hcm.2; unfold maxLen at this; omega, fun i bs hi => ?_⟩
  rw [List.getElem?_map] at hi
  cases ho : os[i]? with
  | none => rw [ho] at hi; cases hi
  | some o =>
    rw [ho] at hi
    cases hi
    have hlt := (List.getElem?_eq_some_iff.1 ho).1
    obtain ⟨b, off, e1, e2⟩ := hr (by omega)
    obtain ⟨⟨uo, k, uc, e3, e4⟩, e5, e6⟩ := hok o (List.mem_of_getElem? ho)
    refine ⟨b, off, uo, k, uc, e1, ?_, by rw [← e3]; exact e5, e4, by unfold reachBytes at e6; omega⟩
    have := e2 i o ho 0 o.v rfl
    rw [Nat.mul_one, Nat.add_zero, e3] at this
    exact this
end
end Go.Proofs.Ytcnokgphioigoaa
