import Derived.Test.YtadfmnlkfcigoaaCl4
import Derived.Test.YtadfmnlkfcigoaaAgF
namespace Go.Proofs.Ytadfmnlkfcigoaa
open Go.RowKit Go.PlainAid
set_option linter.unusedVariables false
set_option linter.unusedSimpArgs false
theorem ppending (a : PA) (s : PV) (q : Nat) (w : World) (h : PN a s w) (hb : PBd s q) (hq : q ≤ 900) : Calls Try.prog 32 #[.pointer (some ⟨a.pb, 0, none⟩)] w fun e w' => e = .returned (.bool true) ∧ PPost a s q s.x.la w w' := by
  have fin : ∀ {e : Ending} {w' : World}, (e = .returned (.bool true) ∧ ∃ z', PN a { s with mark := s.mark + 1, z := z' } w' ∧ PStp a s { s with mark := s.mark + 1, z := z' } w w' ∧ z'.lc.length ≤ s.z.lc.length + 1) → e = .returned (.bool true) ∧ PPost a s q s.x.la w w' := fun hh => by
    obtain ⟨rfl, z', h1, h2, h3⟩ := hh
    refine ⟨rfl, _, h1, h2, ⟨?_, ?_, ?_, ?_⟩, rfl⟩
    · have := hb.op; simp only; omega
    · have := hb.rp; simp only; omega
    · have := hb.mrk; simp only; omega
    · have := hb.lc; simp only; omega
  by_cases hm : (s.mark + 1) % 3 = 0
  · exact (pending_full a s w h (by have := hb.op; omega) (by have := hb.mrk; omega) (by have := hb.lc; omega) hm).mono fun e w' hh => fin hh
  · exact (pending_left a s w h (by have := hb.op; omega) (by have := hb.mrk; omega) (by have := hb.lc; omega) hm).mono fun e w' hh => fin hh
/-- The last ids behind a call. -/
def laOf (a : PA) (s : PV) (k c1 c2 : Int) : Int → Int := if k = 1 then (begX a.ca s.x c1 c2).la else if k = 3 then (begX a.ca s.x c1 (rlastA a.ca s.r.la c1 + 1)).la else s.x.la
theorem call_gen (a : PA) (s : PV) (q : Nat) (k c1 c2 ee vv : Int) (w : World) (h : PN a s w) (hb : PBd s q) (hq : q ≤ 900) (hs1 : In64 c1) (hse : In64 ee) :
    Calls Try.prog 25 #[.pointer (some ⟨a.pb, 0, none⟩), .agg #[.int .i64 k, .int .i64 c1, .int .i64 c2, .int .i64 ee, .int .i64 vv]] w fun e w' => e = .returned (.bool true) ∧ PPost a s q (laOf a s k c1 c2) w w' := by
  by_cases h1 : k = 1
  · subst h1
    rw [show laOf a s 1 c1 c2 = (begX a.ca s.x c1 c2).la from if_pos rfl]
    exact call1 a s q c1 c2 ee vv w h hb hq hs1
  by_cases h3 : k = 3
  · subst h3
    rw [show laOf a s 3 c1 c2 = (begX a.ca s.x c1 (rlastA a.ca s.r.la c1 + 1)).la from by unfold laOf; rw [if_neg (by decide), if_pos rfl]]
    exact call3 a s q c1 c2 ee vv w h hb hq hs1
  rw [show laOf a s k c1 c2 = s.x.la from by unfold laOf; rw [if_neg h1, if_neg h3]]
  by_cases h2 : k = 2
  · subst h2
    exact call2 a s q c1 c2 ee vv w h hb hq hs1
  by_cases h4 : k = 4
  · subst h4
    exact call4 a s q c1 c2 ee vv w h hb hq hs1 hse
  by_cases h5 : k = 5
  · subst h5
    exact call5 a s q c1 c2 ee vv w h hb hq hs1 (fun X hX => ppending a s q X hX hb hq)
  by_cases h6 : k = 6
  · subst h6
    exact call6 a s q c1 c2 ee vv w h hb hq hs1
  exact callO a s q k c1 c2 ee vv w h hb hq hs1 (by omega)
set_option maxRecDepth 100000 in
set_option maxHeartbeats 3200000 in
theorem plays_gen (a : PA) (s : PV) (q : Nat) (k c1 c2 ee vv : Int) (w : World) (h : PN a s w) (hb : PBd s q) (hq : q ≤ 900) (hs1 : In64 c1) (hse : In64 ee) :
    Calls Try.prog 16 #[.pointer (some ⟨a.pb, 0, none⟩), .agg #[.int .i64 k, .int .i64 c1, .int .i64 c2, .int .i64 ee, .int .i64 vv]] w fun e w' => e = .returned (.bool true) ∧ PPost a s q (laOf a s k c1 c2) w w' := by
  obtain ⟨X, hX⟩ : ∃ X, X = w.alloc (.cells #[.int .i64 k, .int .i64 c1, .int .i64 c2, .int .i64 ee, .int .i64 vv] 34) := ⟨_, rfl⟩
  have hbX : Below w.heap.size w X := by rw [hX]; exact (Below.refl _ _).alloc (Nat.le_refl _) _
  have HC : Hid _ := call_gen a s q k c1 c2 ee vv X (h.more hbX) hb hq hs1 hse
  have HST : Hid (∀ s' W, PN a s' W → _) := fun s' W hW => stands_pn a s' W hW
  have HBX : Hid (Below w.heap.size w X) := hbX
  clear h hb hbX
  go_enter Try.func16, Try.ntmps16
  go_wp2_with fail
  rw [← hX]
  refine Calls.mono HC.out ?_
  rintro e w2 ⟨rfl, hpp⟩
  obtain ⟨s2, hn2, hst2, hbd2, hla2⟩ := hpp
  have HS2 : Hid _ := HST.out s2 w2 hn2
  have HN2 : Hid (PN a s2 w2) := hn2
  have HP2 : Hid (PStp a s s2 X w2) := hst2
  have HB2 : Hid (PBd s2 (q + 1)) := hbd2
  have HL2 : Hid _ := hla2
  clear hn2 hst2 hbd2 hla2 HC HST hX
  go_wp2_with fail
  refine Calls.mono HS2.out ?_
  rintro e w3 ⟨rfl, q3, hw3⟩
  have hb3 : Below w2.heap.size w2 w3 := by rw [hw3]; exact below_drewN (Below.refl _ _) q3
  have HFI : Hid (PPost a s q (laOf a s k c1 c2) w w3) := PPost.of HBX.out ⟨s2, HN2.out.more hb3, HP2.out.trans (PStp.ofBelow hb3), HB2.out, HL2.out⟩
  clear hb3 hw3 HS2 HN2 HP2
  go_wp2_with fail
  go_ret
  exact ⟨rfl, HFI.out⟩
theorem laOf_0 (a : PA) (s : PV) {w : World} (hca : a.ca.me = 1 ∧ a.ca.rep = 3 ∧ a.ca.ses = 6) (hla : s.x.la 4 = 0) (h : PN a s w) : laOf a s 1 4 2 4 = 0 := by
  have hm : mine a.ca.me a.ca.rep a.ca.ses 4 := by rw [hca.1, hca.2.1, hca.2.2]; decide
  unfold laOf begX
  rw [if_pos rfl, if_neg (show ¬ isNew a.ca (s.x.la 4) 4 2 from fun hh => by have := hh.2.2.2; rw [hla] at this; omega)]
  exact hla
theorem laOf_1 (a : PA) (s : PV) {w : World} (hca : a.ca.me = 1 ∧ a.ca.rep = 3 ∧ a.ca.ses = 6) (hla : s.x.la 4 = 0) (h : PN a s w) : laOf a s 1 4 1 4 = 1 := by
  have hm : mine a.ca.me a.ca.rep a.ca.ses 4 := by rw [hca.1, hca.2.1, hca.2.2]; decide
  unfold laOf begX
  rw [if_pos rfl, if_pos (show isNew a.ca (s.x.la 4) 4 1 from ⟨hm, by omega, by omega, by rw [hla]; rfl⟩)]
  rfl
theorem laOf_2 (a : PA) (s : PV) {w : World} (hca : a.ca.me = 1 ∧ a.ca.rep = 3 ∧ a.ca.ses = 6) (hla : s.x.la 4 = 1) (h : PN a s w) : laOf a s 1 4 1 4 = 1 := by
  have hm : mine a.ca.me a.ca.rep a.ca.ses 4 := by rw [hca.1, hca.2.1, hca.2.2]; decide
  unfold laOf begX
  rw [if_pos rfl, if_neg (show ¬ isNew a.ca (s.x.la 4) 4 1 from fun hh => by have := hh.2.2.2; rw [hla] at this; omega)]
  exact hla
theorem laOf_3 (a : PA) (s : PV) {w : World} (hca : a.ca.me = 1 ∧ a.ca.rep = 3 ∧ a.ca.ses = 6) (hla : s.x.la 4 = 1) (h : PN a s w) : laOf a s 5 0 0 4 = 1 := by
  have hm : mine a.ca.me a.ca.rep a.ca.ses 4 := by rw [hca.1, hca.2.1, hca.2.2]; decide
  unfold laOf
  rw [if_neg (by decide), if_neg (by decide)]
  exact hla
theorem laOf_4 (a : PA) (s : PV) {w : World} (hca : a.ca.me = 1 ∧ a.ca.rep = 3 ∧ a.ca.ses = 6) (hla : s.x.la 4 = 1) (h : PN a s w) : laOf a s 2 4 1 4 = 1 := by
  have hm : mine a.ca.me a.ca.rep a.ca.ses 4 := by rw [hca.1, hca.2.1, hca.2.2]; decide
  unfold laOf
  rw [if_neg (by decide), if_neg (by decide)]
  exact hla
theorem laOf_5 (a : PA) (s : PV) {w : World} (hca : a.ca.me = 1 ∧ a.ca.rep = 3 ∧ a.ca.ses = 6) (hla : s.x.la 4 = 1) (h : PN a s w) : laOf a s 1 4 1 4 = 1 := by
  have hm : mine a.ca.me a.ca.rep a.ca.ses 4 := by rw [hca.1, hca.2.1, hca.2.2]; decide
  unfold laOf begX
  rw [if_pos rfl, if_neg (show ¬ isNew a.ca (s.x.la 4) 4 1 from fun hh => by have := hh.2.2.2; rw [hla] at this; omega)]
  exact hla
theorem laOf_6 (a : PA) (s : PV) {w : World} (hca : a.ca.me = 1 ∧ a.ca.rep = 3 ∧ a.ca.ses = 6) (hla : s.x.la 4 = 1) (h : PN a s w) : laOf a s 3 4 1 4 = 2 := by
  have hm : mine a.ca.me a.ca.rep a.ca.ses 4 := by rw [hca.1, hca.2.1, hca.2.2]; decide
  have hr : rlastA a.ca s.r.la 4 = 1 := by unfold rlastA; rw [if_pos hm, h.g.la 4 hm, hla]
  unfold laOf begX
  rw [if_neg (by decide), if_pos rfl, hr, if_pos (show isNew a.ca (s.x.la 4) 4 (1 + 1) from ⟨hm, by omega, by omega, by rw [hla]⟩)]
  rfl
theorem laOf_7 (a : PA) (s : PV) {w : World} (hca : a.ca.me = 1 ∧ a.ca.rep = 3 ∧ a.ca.ses = 6) (hla : s.x.la 4 = 2) (h : PN a s w) : laOf a s 4 0 0 4 = 2 := by
  have hm : mine a.ca.me a.ca.rep a.ca.ses 4 := by rw [hca.1, hca.2.1, hca.2.2]; decide
  unfold laOf
  rw [if_neg (by decide), if_neg (by decide)]
  exact hla
theorem laOf_8 (a : PA) (s : PV) {w : World} (hca : a.ca.me = 1 ∧ a.ca.rep = 3 ∧ a.ca.ses = 6) (hla : s.x.la 4 = 2) (h : PN a s w) : laOf a s 1 4 1 4 = 2 := by
  have hm : mine a.ca.me a.ca.rep a.ca.ses 4 := by rw [hca.1, hca.2.1, hca.2.2]; decide
  unfold laOf begX
  rw [if_pos rfl, if_neg (show ¬ isNew a.ca (s.x.la 4) 4 1 from fun hh => by have := hh.2.2.2; rw [hla] at this; omega)]
  exact hla
theorem laOf_9 (a : PA) (s : PV) {w : World} (hca : a.ca.me = 1 ∧ a.ca.rep = 3 ∧ a.ca.ses = 6) (hla : s.x.la 4 = 2) (h : PN a s w) : laOf a s 1 4 2 4 = 2 := by
  have hm : mine a.ca.me a.ca.rep a.ca.ses 4 := by rw [hca.1, hca.2.1, hca.2.2]; decide
  unfold laOf begX
  rw [if_pos rfl, if_neg (show ¬ isNew a.ca (s.x.la 4) 4 2 from fun hh => by have := hh.2.2.2; rw [hla] at this; omega)]
  exact hla
theorem laOf_10 (a : PA) (s : PV) {w : World} (hca : a.ca.me = 1 ∧ a.ca.rep = 3 ∧ a.ca.ses = 6) (hla : s.x.la 4 = 2) (h : PN a s w) : laOf a s 6 4 1 4 = 2 := by
  have hm : mine a.ca.me a.ca.rep a.ca.ses 4 := by rw [hca.1, hca.2.1, hca.2.2]; decide
  unfold laOf
  rw [if_neg (by decide), if_neg (by decide)]
  exact hla
def rowA : Array Value := #[.int .i64 1, .int .i64 4, .int .i64 2, .int .i64 0, .int .i64 0, .int .i64 1, .int .i64 4, .int .i64 1, .int .i64 0, .int .i64 0, .int .i64 1, .int .i64 4, .int .i64 1, .int .i64 0, .int .i64 0, .int .i64 5, .int .i64 0, .int .i64 0, .int .i64 0, .int .i64 0, .int .i64 2, .int .i64 4, .int .i64 1, .int .i64 0, .int .i64 7, .int .i64 1, .int .i64 4, .int .i64 1, .int .i64 0, .int .i64 0, .int .i64 3, .int .i64 4, .int .i64 1, .int .i64 0, .int .i64 0, .int .i64 4, .int .i64 0, .int .i64 0, .int .i64 0, .int .i64 8, .int .i64 1, .int .i64 4, .int .i64 1, .int .i64 0, .int .i64 0, .int .i64 1, .int .i64 4, .int .i64 2, .int .i64 0, .int .i64 0, .int .i64 6, .int .i64 4, .int .i64 1, .int .i64 0, .int .i64 0]
set_option maxRecDepth 100000 in
set_option maxHeartbeats 12800000 in
theorem alive_any (w : World) : Calls Try.prog 8 #[] w fun e w' => e = .returned (.bool true) ∧ Below w.heap.size w w' := by
  have HM : Hid _ := made_yes 1 3 6 1 w (by decide)
  have hz2 : ∀ w, (zeroValue 32).run Try.prog w = .ok (.agg #[.int .i64 0, .int .i64 0]) w := fun w => by kernel_rfl
  go_enter Try.func8, Try.ntmps8
  go_wp2_with fail
  refine Calls.mono HM.out ?_
  rintro e w2 ⟨a, rfl, hL, hme, hrep, hses, hroom, hPN, hb2⟩
  have HCA : Hid (a.ca.me = 1 ∧ a.ca.rep = 3 ∧ a.ca.ses = 6) := ⟨hme, hrep, hses⟩
  have HP2 : Hid (PN a s0 w2) := hPN
  have HB2 : Hid (Below w.heap.size w w2) := hb2
  have HLL : Hid (a.L = w.heap.size) := hL
  clear hL hme hrep hses hroom hPN hb2 HM
  go_wp2_with fail
  obtain ⟨X, hX⟩ : ∃ X, X = ((w2.alloc (.cells #[.int .i64 4, .int .i64 1] 32)).alloc (.cells #[.int .i64 4, .int .i64 2] 32)).alloc (.cells rowA 34) := ⟨_, rfl⟩
  have hbX : Below w2.heap.size w2 X := by
    rw [hX]
    have g1 : Below w2.heap.size w2 (w2.alloc (.cells #[.int .i64 4, .int .i64 1] 32)) := (Below.refl _ _).alloc (Nat.le_refl _) _
    have g2 := g1.alloc g1.size (.cells #[.int .i64 4, .int .i64 2] 32)
    exact g2.alloc g2.size _
  obtain ⟨bb, hbb⟩ : ∃ bb, bb = w2.heap.size + 1 + 1 := ⟨_, rfl⟩
  have HX : Hid (Blk X bb rowA 34) := show Blk X bb rowA 34 from by
    rw [hX, hbb]
    have := heap_alloc_new ((w2.alloc (.cells #[.int .i64 4, .int .i64 1] 32)).alloc (.cells #[.int .i64 4, .int .i64 2] 32)) (.cells rowA 34)
    rw [World.size_alloc, World.size_alloc] at this
    exact this
  have HPX : Hid (PN a s0 X) := HP2.out.more hbX
  have HNX0 : Hid (¬ has (a.ents s0) bb) := fun hh => by have := HP2.out.lt hh; omega
  have HBLX : Hid (Below w.heap.size w X) := HB2.out.trans (hbX.mono HB2.out.size)
  unfold rowA at hX
  rw [← hX, ← hbb]
  clear hX hbX hbb HP2 HB2
  go_loopw [6] (fun s6 wr => ∃ (q : Nat) (s : PV), q ≤ 11 ∧ s6 = .int .i64 q ∧ PN a s wr ∧ PBd s q ∧ s.x.la 4 = [0, 0, 1, 1, 1, 1, 1, 2, 2, 2, 2, 2].getD q 0 ∧ Blk wr bb rowA 34 ∧ ¬ has (a.ents s) bb ∧ Below w.heap.size w wr) (fun s6 _ => 11 - (intOf s6).toNat)
  case atStart => exact ⟨0, s0, by omega, rfl, HPX.out, bd0, rfl, HX.out, HNX0.out, HBLX.out⟩
  case round =>
    obtain ⟨q, s, hq, rfl, hS, hbd, hla, hx, hnx, hbel⟩ := hrel
    have hq9 : q = 0 ∨ q = 1 ∨ q = 2 ∨ q = 3 ∨ q = 4 ∨ q = 5 ∨ q = 6 ∨ q = 7 ∨ q = 8 ∨ q = 9 ∨ q = 10 ∨ q = 11 := by omega
    have HS : Hid (PN a s wr) := hS
    have HXR : Hid (Blk wr bb rowA 34) := hx
    have HNX : Hid (¬ has (a.ents s) bb) := hnx
    have HBL : Hid (Below w.heap.size w wr) := hbel
    clear hS hx hnx hbel HX HPX HNX0 HBLX
    rcases hq9 with rfl | rfl | rfl | rfl | rfl | rfl | rfl | rfl | rfl | rfl | rfl | rfl
    · have HBD : Hid (PBd s 0) := hbd
      have HLA : Hid (s.x.la 4 = 0) := hla
      clear hbd hla hq
      have b0 : wr.cell? ⟨bb, 0, none⟩ = some (.int .i64 1) := Blk.cell HXR.out 0
      have b1 : wr.cell? ⟨bb, 1, none⟩ = some (.int .i64 4) := Blk.cell HXR.out 1
      have b2 : wr.cell? ⟨bb, 2, none⟩ = some (.int .i64 2) := Blk.cell HXR.out 2
      have b3 : wr.cell? ⟨bb, 3, none⟩ = some (.int .i64 0) := Blk.cell HXR.out 3
      have b4 : wr.cell? ⟨bb, 4, none⟩ = some (.int .i64 0) := Blk.cell HXR.out 4
      go_wp2_with fail
      refine Calls.mono (plays_gen a s 0 1 4 2 0 0 wr HS.out HBD.out (by omega) ⟨by omega, by omega⟩ ⟨by omega, by omega⟩) ?_
      rintro e w3 ⟨rfl, s3, h3, st3, bd3, la3⟩
      have HN : Hid (PN a s3 w3) := h3
      have HB3 : Hid (PBd s3 1) := bd3
      have HL3 : Hid (s3.x.la 4 = 0) := show s3.x.la 4 = 0 from by rw [la3]; exact laOf_0 a s HCA.out HLA.out HS.out
      have HX3 : Hid (Blk w3 bb rowA 34) := show Blk w3 bb rowA 34 from st3.chg.blk HXR.out HNX.out
      have HNX3 : Hid (¬ has (a.ents s3) bb) := fun hh => by
        rcases st3.new bb hh with h5 | h5
        · exact HNX.out h5
        · have := Blk.lt HXR.out
          omega
      have HBL3 : Hid (Below w.heap.size w w3) := HBL.out.trans (by rw [← HLL.out]; exact st3.below HS.out)
      clear h3 st3 bd3 la3 b0 b1 b2 b3 b4
      go_wp2_with fail
      go_roundw
      case rel => exact ⟨1, s3, by omega, by rfl, HN.out, HB3.out, HL3.out, HX3.out, HNX3.out, HBL3.out⟩
      case measure => simp [intOf]
    · have HBD : Hid (PBd s 1) := hbd
      have HLA : Hid (s.x.la 4 = 0) := hla
      clear hbd hla hq
      have b0 : wr.cell? ⟨bb, 5, none⟩ = some (.int .i64 1) := Blk.cell HXR.out 5
      have b1 : wr.cell? ⟨bb, 6, none⟩ = some (.int .i64 4) := Blk.cell HXR.out 6
      have b2 : wr.cell? ⟨bb, 7, none⟩ = some (.int .i64 1) := Blk.cell HXR.out 7
      have b3 : wr.cell? ⟨bb, 8, none⟩ = some (.int .i64 0) := Blk.cell HXR.out 8
      have b4 : wr.cell? ⟨bb, 9, none⟩ = some (.int .i64 0) := Blk.cell HXR.out 9
      go_wp2_with fail
      refine Calls.mono (plays_gen a s 1 1 4 1 0 0 wr HS.out HBD.out (by omega) ⟨by omega, by omega⟩ ⟨by omega, by omega⟩) ?_
      rintro e w3 ⟨rfl, s3, h3, st3, bd3, la3⟩
      have HN : Hid (PN a s3 w3) := h3
      have HB3 : Hid (PBd s3 2) := bd3
      have HL3 : Hid (s3.x.la 4 = 1) := show s3.x.la 4 = 1 from by rw [la3]; exact laOf_1 a s HCA.out HLA.out HS.out
      have HX3 : Hid (Blk w3 bb rowA 34) := show Blk w3 bb rowA 34 from st3.chg.blk HXR.out HNX.out
      have HNX3 : Hid (¬ has (a.ents s3) bb) := fun hh => by
        rcases st3.new bb hh with h5 | h5
        · exact HNX.out h5
        · have := Blk.lt HXR.out
          omega
      have HBL3 : Hid (Below w.heap.size w w3) := HBL.out.trans (by rw [← HLL.out]; exact st3.below HS.out)
      clear h3 st3 bd3 la3 b0 b1 b2 b3 b4
      go_wp2_with fail
      go_roundw
      case rel => exact ⟨2, s3, by omega, by rfl, HN.out, HB3.out, HL3.out, HX3.out, HNX3.out, HBL3.out⟩
      case measure => simp [intOf]
    · have HBD : Hid (PBd s 2) := hbd
      have HLA : Hid (s.x.la 4 = 1) := hla
      clear hbd hla hq
      have b0 : wr.cell? ⟨bb, 10, none⟩ = some (.int .i64 1) := Blk.cell HXR.out 10
      have b1 : wr.cell? ⟨bb, 11, none⟩ = some (.int .i64 4) := Blk.cell HXR.out 11
      have b2 : wr.cell? ⟨bb, 12, none⟩ = some (.int .i64 1) := Blk.cell HXR.out 12
      have b3 : wr.cell? ⟨bb, 13, none⟩ = some (.int .i64 0) := Blk.cell HXR.out 13
      have b4 : wr.cell? ⟨bb, 14, none⟩ = some (.int .i64 0) := Blk.cell HXR.out 14
      go_wp2_with fail
      refine Calls.mono (plays_gen a s 2 1 4 1 0 0 wr HS.out HBD.out (by omega) ⟨by omega, by omega⟩ ⟨by omega, by omega⟩) ?_
      rintro e w3 ⟨rfl, s3, h3, st3, bd3, la3⟩
      have HN : Hid (PN a s3 w3) := h3
      have HB3 : Hid (PBd s3 3) := bd3
      have HL3 : Hid (s3.x.la 4 = 1) := show s3.x.la 4 = 1 from by rw [la3]; exact laOf_2 a s HCA.out HLA.out HS.out
      have HX3 : Hid (Blk w3 bb rowA 34) := show Blk w3 bb rowA 34 from st3.chg.blk HXR.out HNX.out
      have HNX3 : Hid (¬ has (a.ents s3) bb) := fun hh => by
        rcases st3.new bb hh with h5 | h5
        · exact HNX.out h5
        · have := Blk.lt HXR.out
          omega
      have HBL3 : Hid (Below w.heap.size w w3) := HBL.out.trans (by rw [← HLL.out]; exact st3.below HS.out)
      clear h3 st3 bd3 la3 b0 b1 b2 b3 b4
      go_wp2_with fail
      go_roundw
      case rel => exact ⟨3, s3, by omega, by rfl, HN.out, HB3.out, HL3.out, HX3.out, HNX3.out, HBL3.out⟩
      case measure => simp [intOf]
    · have HBD : Hid (PBd s 3) := hbd
      have HLA : Hid (s.x.la 4 = 1) := hla
      clear hbd hla hq
      have b0 : wr.cell? ⟨bb, 15, none⟩ = some (.int .i64 5) := Blk.cell HXR.out 15
      have b1 : wr.cell? ⟨bb, 16, none⟩ = some (.int .i64 0) := Blk.cell HXR.out 16
      have b2 : wr.cell? ⟨bb, 17, none⟩ = some (.int .i64 0) := Blk.cell HXR.out 17
      have b3 : wr.cell? ⟨bb, 18, none⟩ = some (.int .i64 0) := Blk.cell HXR.out 18
      have b4 : wr.cell? ⟨bb, 19, none⟩ = some (.int .i64 0) := Blk.cell HXR.out 19
      go_wp2_with fail
      refine Calls.mono (plays_gen a s 3 5 0 0 0 0 wr HS.out HBD.out (by omega) ⟨by omega, by omega⟩ ⟨by omega, by omega⟩) ?_
      rintro e w3 ⟨rfl, s3, h3, st3, bd3, la3⟩
      have HN : Hid (PN a s3 w3) := h3
      have HB3 : Hid (PBd s3 4) := bd3
      have HL3 : Hid (s3.x.la 4 = 1) := show s3.x.la 4 = 1 from by rw [la3]; exact laOf_3 a s HCA.out HLA.out HS.out
      have HX3 : Hid (Blk w3 bb rowA 34) := show Blk w3 bb rowA 34 from st3.chg.blk HXR.out HNX.out
      have HNX3 : Hid (¬ has (a.ents s3) bb) := fun hh => by
        rcases st3.new bb hh with h5 | h5
        · exact HNX.out h5
        · have := Blk.lt HXR.out
          omega
      have HBL3 : Hid (Below w.heap.size w w3) := HBL.out.trans (by rw [← HLL.out]; exact st3.below HS.out)
      clear h3 st3 bd3 la3 b0 b1 b2 b3 b4
      go_wp2_with fail
      go_roundw
      case rel => exact ⟨4, s3, by omega, by rfl, HN.out, HB3.out, HL3.out, HX3.out, HNX3.out, HBL3.out⟩
      case measure => simp [intOf]
    · have HBD : Hid (PBd s 4) := hbd
      have HLA : Hid (s.x.la 4 = 1) := hla
      clear hbd hla hq
      have b0 : wr.cell? ⟨bb, 20, none⟩ = some (.int .i64 2) := Blk.cell HXR.out 20
      have b1 : wr.cell? ⟨bb, 21, none⟩ = some (.int .i64 4) := Blk.cell HXR.out 21
      have b2 : wr.cell? ⟨bb, 22, none⟩ = some (.int .i64 1) := Blk.cell HXR.out 22
      have b3 : wr.cell? ⟨bb, 23, none⟩ = some (.int .i64 0) := Blk.cell HXR.out 23
      have b4 : wr.cell? ⟨bb, 24, none⟩ = some (.int .i64 7) := Blk.cell HXR.out 24
      go_wp2_with fail
      refine Calls.mono (plays_gen a s 4 2 4 1 0 7 wr HS.out HBD.out (by omega) ⟨by omega, by omega⟩ ⟨by omega, by omega⟩) ?_
      rintro e w3 ⟨rfl, s3, h3, st3, bd3, la3⟩
      have HN : Hid (PN a s3 w3) := h3
      have HB3 : Hid (PBd s3 5) := bd3
      have HL3 : Hid (s3.x.la 4 = 1) := show s3.x.la 4 = 1 from by rw [la3]; exact laOf_4 a s HCA.out HLA.out HS.out
      have HX3 : Hid (Blk w3 bb rowA 34) := show Blk w3 bb rowA 34 from st3.chg.blk HXR.out HNX.out
      have HNX3 : Hid (¬ has (a.ents s3) bb) := fun hh => by
        rcases st3.new bb hh with h5 | h5
        · exact HNX.out h5
        · have := Blk.lt HXR.out
          omega
      have HBL3 : Hid (Below w.heap.size w w3) := HBL.out.trans (by rw [← HLL.out]; exact st3.below HS.out)
      clear h3 st3 bd3 la3 b0 b1 b2 b3 b4
      go_wp2_with fail
      go_roundw
      case rel => exact ⟨5, s3, by omega, by rfl, HN.out, HB3.out, HL3.out, HX3.out, HNX3.out, HBL3.out⟩
      case measure => simp [intOf]
    · have HBD : Hid (PBd s 5) := hbd
      have HLA : Hid (s.x.la 4 = 1) := hla
      clear hbd hla hq
      have b0 : wr.cell? ⟨bb, 25, none⟩ = some (.int .i64 1) := Blk.cell HXR.out 25
      have b1 : wr.cell? ⟨bb, 26, none⟩ = some (.int .i64 4) := Blk.cell HXR.out 26
      have b2 : wr.cell? ⟨bb, 27, none⟩ = some (.int .i64 1) := Blk.cell HXR.out 27
      have b3 : wr.cell? ⟨bb, 28, none⟩ = some (.int .i64 0) := Blk.cell HXR.out 28
      have b4 : wr.cell? ⟨bb, 29, none⟩ = some (.int .i64 0) := Blk.cell HXR.out 29
      go_wp2_with fail
      refine Calls.mono (plays_gen a s 5 1 4 1 0 0 wr HS.out HBD.out (by omega) ⟨by omega, by omega⟩ ⟨by omega, by omega⟩) ?_
      rintro e w3 ⟨rfl, s3, h3, st3, bd3, la3⟩
      have HN : Hid (PN a s3 w3) := h3
      have HB3 : Hid (PBd s3 6) := bd3
      have HL3 : Hid (s3.x.la 4 = 1) := show s3.x.la 4 = 1 from by rw [la3]; exact laOf_5 a s HCA.out HLA.out HS.out
      have HX3 : Hid (Blk w3 bb rowA 34) := show Blk w3 bb rowA 34 from st3.chg.blk HXR.out HNX.out
      have HNX3 : Hid (¬ has (a.ents s3) bb) := fun hh => by
        rcases st3.new bb hh with h5 | h5
        · exact HNX.out h5
        · have := Blk.lt HXR.out
          omega
      have HBL3 : Hid (Below w.heap.size w w3) := HBL.out.trans (by rw [← HLL.out]; exact st3.below HS.out)
      clear h3 st3 bd3 la3 b0 b1 b2 b3 b4
      go_wp2_with fail
      go_roundw
      case rel => exact ⟨6, s3, by omega, by rfl, HN.out, HB3.out, HL3.out, HX3.out, HNX3.out, HBL3.out⟩
      case measure => simp [intOf]
    · have HBD : Hid (PBd s 6) := hbd
      have HLA : Hid (s.x.la 4 = 1) := hla
      clear hbd hla hq
      have b0 : wr.cell? ⟨bb, 30, none⟩ = some (.int .i64 3) := Blk.cell HXR.out 30
      have b1 : wr.cell? ⟨bb, 31, none⟩ = some (.int .i64 4) := Blk.cell HXR.out 31
      have b2 : wr.cell? ⟨bb, 32, none⟩ = some (.int .i64 1) := Blk.cell HXR.out 32
      have b3 : wr.cell? ⟨bb, 33, none⟩ = some (.int .i64 0) := Blk.cell HXR.out 33
      have b4 : wr.cell? ⟨bb, 34, none⟩ = some (.int .i64 0) := Blk.cell HXR.out 34
      go_wp2_with fail
      refine Calls.mono (plays_gen a s 6 3 4 1 0 0 wr HS.out HBD.out (by omega) ⟨by omega, by omega⟩ ⟨by omega, by omega⟩) ?_
      rintro e w3 ⟨rfl, s3, h3, st3, bd3, la3⟩
      have HN : Hid (PN a s3 w3) := h3
      have HB3 : Hid (PBd s3 7) := bd3
      have HL3 : Hid (s3.x.la 4 = 2) := show s3.x.la 4 = 2 from by rw [la3]; exact laOf_6 a s HCA.out HLA.out HS.out
      have HX3 : Hid (Blk w3 bb rowA 34) := show Blk w3 bb rowA 34 from st3.chg.blk HXR.out HNX.out
      have HNX3 : Hid (¬ has (a.ents s3) bb) := fun hh => by
        rcases st3.new bb hh with h5 | h5
        · exact HNX.out h5
        · have := Blk.lt HXR.out
          omega
      have HBL3 : Hid (Below w.heap.size w w3) := HBL.out.trans (by rw [← HLL.out]; exact st3.below HS.out)
      clear h3 st3 bd3 la3 b0 b1 b2 b3 b4
      go_wp2_with fail
      go_roundw
      case rel => exact ⟨7, s3, by omega, by rfl, HN.out, HB3.out, HL3.out, HX3.out, HNX3.out, HBL3.out⟩
      case measure => simp [intOf]
    · have HBD : Hid (PBd s 7) := hbd
      have HLA : Hid (s.x.la 4 = 2) := hla
      clear hbd hla hq
      have b0 : wr.cell? ⟨bb, 35, none⟩ = some (.int .i64 4) := Blk.cell HXR.out 35
      have b1 : wr.cell? ⟨bb, 36, none⟩ = some (.int .i64 0) := Blk.cell HXR.out 36
      have b2 : wr.cell? ⟨bb, 37, none⟩ = some (.int .i64 0) := Blk.cell HXR.out 37
      have b3 : wr.cell? ⟨bb, 38, none⟩ = some (.int .i64 0) := Blk.cell HXR.out 38
      have b4 : wr.cell? ⟨bb, 39, none⟩ = some (.int .i64 8) := Blk.cell HXR.out 39
      go_wp2_with fail
      refine Calls.mono (plays_gen a s 7 4 0 0 0 8 wr HS.out HBD.out (by omega) ⟨by omega, by omega⟩ ⟨by omega, by omega⟩) ?_
      rintro e w3 ⟨rfl, s3, h3, st3, bd3, la3⟩
      have HN : Hid (PN a s3 w3) := h3
      have HB3 : Hid (PBd s3 8) := bd3
      have HL3 : Hid (s3.x.la 4 = 2) := show s3.x.la 4 = 2 from by rw [la3]; exact laOf_7 a s HCA.out HLA.out HS.out
      have HX3 : Hid (Blk w3 bb rowA 34) := show Blk w3 bb rowA 34 from st3.chg.blk HXR.out HNX.out
      have HNX3 : Hid (¬ has (a.ents s3) bb) := fun hh => by
        rcases st3.new bb hh with h5 | h5
        · exact HNX.out h5
        · have := Blk.lt HXR.out
          omega
      have HBL3 : Hid (Below w.heap.size w w3) := HBL.out.trans (by rw [← HLL.out]; exact st3.below HS.out)
      clear h3 st3 bd3 la3 b0 b1 b2 b3 b4
      go_wp2_with fail
      go_roundw
      case rel => exact ⟨8, s3, by omega, by rfl, HN.out, HB3.out, HL3.out, HX3.out, HNX3.out, HBL3.out⟩
      case measure => simp [intOf]
    · have HBD : Hid (PBd s 8) := hbd
      have HLA : Hid (s.x.la 4 = 2) := hla
      clear hbd hla hq
      have b0 : wr.cell? ⟨bb, 40, none⟩ = some (.int .i64 1) := Blk.cell HXR.out 40
      have b1 : wr.cell? ⟨bb, 41, none⟩ = some (.int .i64 4) := Blk.cell HXR.out 41
      have b2 : wr.cell? ⟨bb, 42, none⟩ = some (.int .i64 1) := Blk.cell HXR.out 42
      have b3 : wr.cell? ⟨bb, 43, none⟩ = some (.int .i64 0) := Blk.cell HXR.out 43
      have b4 : wr.cell? ⟨bb, 44, none⟩ = some (.int .i64 0) := Blk.cell HXR.out 44
      go_wp2_with fail
      refine Calls.mono (plays_gen a s 8 1 4 1 0 0 wr HS.out HBD.out (by omega) ⟨by omega, by omega⟩ ⟨by omega, by omega⟩) ?_
      rintro e w3 ⟨rfl, s3, h3, st3, bd3, la3⟩
      have HN : Hid (PN a s3 w3) := h3
      have HB3 : Hid (PBd s3 9) := bd3
      have HL3 : Hid (s3.x.la 4 = 2) := show s3.x.la 4 = 2 from by rw [la3]; exact laOf_8 a s HCA.out HLA.out HS.out
      have HX3 : Hid (Blk w3 bb rowA 34) := show Blk w3 bb rowA 34 from st3.chg.blk HXR.out HNX.out
      have HNX3 : Hid (¬ has (a.ents s3) bb) := fun hh => by
        rcases st3.new bb hh with h5 | h5
        · exact HNX.out h5
        · have := Blk.lt HXR.out
          omega
      have HBL3 : Hid (Below w.heap.size w w3) := HBL.out.trans (by rw [← HLL.out]; exact st3.below HS.out)
      clear h3 st3 bd3 la3 b0 b1 b2 b3 b4
      go_wp2_with fail
      go_roundw
      case rel => exact ⟨9, s3, by omega, by rfl, HN.out, HB3.out, HL3.out, HX3.out, HNX3.out, HBL3.out⟩
      case measure => simp [intOf]
    · have HBD : Hid (PBd s 9) := hbd
      have HLA : Hid (s.x.la 4 = 2) := hla
      clear hbd hla hq
      have b0 : wr.cell? ⟨bb, 45, none⟩ = some (.int .i64 1) := Blk.cell HXR.out 45
      have b1 : wr.cell? ⟨bb, 46, none⟩ = some (.int .i64 4) := Blk.cell HXR.out 46
      have b2 : wr.cell? ⟨bb, 47, none⟩ = some (.int .i64 2) := Blk.cell HXR.out 47
      have b3 : wr.cell? ⟨bb, 48, none⟩ = some (.int .i64 0) := Blk.cell HXR.out 48
      have b4 : wr.cell? ⟨bb, 49, none⟩ = some (.int .i64 0) := Blk.cell HXR.out 49
      go_wp2_with fail
      refine Calls.mono (plays_gen a s 9 1 4 2 0 0 wr HS.out HBD.out (by omega) ⟨by omega, by omega⟩ ⟨by omega, by omega⟩) ?_
      rintro e w3 ⟨rfl, s3, h3, st3, bd3, la3⟩
      have HN : Hid (PN a s3 w3) := h3
      have HB3 : Hid (PBd s3 10) := bd3
      have HL3 : Hid (s3.x.la 4 = 2) := show s3.x.la 4 = 2 from by rw [la3]; exact laOf_9 a s HCA.out HLA.out HS.out
      have HX3 : Hid (Blk w3 bb rowA 34) := show Blk w3 bb rowA 34 from st3.chg.blk HXR.out HNX.out
      have HNX3 : Hid (¬ has (a.ents s3) bb) := fun hh => by
        rcases st3.new bb hh with h5 | h5
        · exact HNX.out h5
        · have := Blk.lt HXR.out
          omega
      have HBL3 : Hid (Below w.heap.size w w3) := HBL.out.trans (by rw [← HLL.out]; exact st3.below HS.out)
      clear h3 st3 bd3 la3 b0 b1 b2 b3 b4
      go_wp2_with fail
      go_roundw
      case rel => exact ⟨10, s3, by omega, by rfl, HN.out, HB3.out, HL3.out, HX3.out, HNX3.out, HBL3.out⟩
      case measure => simp [intOf]
    · have HBD : Hid (PBd s 10) := hbd
      have HLA : Hid (s.x.la 4 = 2) := hla
      clear hbd hla hq
      have b0 : wr.cell? ⟨bb, 50, none⟩ = some (.int .i64 6) := Blk.cell HXR.out 50
      have b1 : wr.cell? ⟨bb, 51, none⟩ = some (.int .i64 4) := Blk.cell HXR.out 51
      have b2 : wr.cell? ⟨bb, 52, none⟩ = some (.int .i64 1) := Blk.cell HXR.out 52
      have b3 : wr.cell? ⟨bb, 53, none⟩ = some (.int .i64 0) := Blk.cell HXR.out 53
      have b4 : wr.cell? ⟨bb, 54, none⟩ = some (.int .i64 0) := Blk.cell HXR.out 54
      go_wp2_with fail
      refine Calls.mono (plays_gen a s 10 6 4 1 0 0 wr HS.out HBD.out (by omega) ⟨by omega, by omega⟩ ⟨by omega, by omega⟩) ?_
      rintro e w3 ⟨rfl, s3, h3, st3, bd3, la3⟩
      have HN : Hid (PN a s3 w3) := h3
      have HB3 : Hid (PBd s3 11) := bd3
      have HL3 : Hid (s3.x.la 4 = 2) := show s3.x.la 4 = 2 from by rw [la3]; exact laOf_10 a s HCA.out HLA.out HS.out
      have HX3 : Hid (Blk w3 bb rowA 34) := show Blk w3 bb rowA 34 from st3.chg.blk HXR.out HNX.out
      have HNX3 : Hid (¬ has (a.ents s3) bb) := fun hh => by
        rcases st3.new bb hh with h5 | h5
        · exact HNX.out h5
        · have := Blk.lt HXR.out
          omega
      have HBL3 : Hid (Below w.heap.size w w3) := HBL.out.trans (by rw [← HLL.out]; exact st3.below HS.out)
      clear h3 st3 bd3 la3 b0 b1 b2 b3 b4
      go_wp2_with fail
      go_roundw
      case rel => exact ⟨11, s3, by omega, by rfl, HN.out, HB3.out, HL3.out, HX3.out, HNX3.out, HBL3.out⟩
      case measure => simp [intOf]
    · have p0 : wr.cell? ⟨a.pb, 0, none⟩ = some (.pointer (some ⟨a.ca.cb, 0, none⟩)) := (HS.out.box).cell 0
      have HLS : Hid (Calls Try.prog 14 #[.pointer (some ⟨a.ca.cb, 0, none⟩), .int .i64 4] wr fun e w' => e = .returned (.int .i64 2) ∧ Below wr.heap.size wr w') := by
        have h5 := last_any 4 wr HS.out.cm ⟨by omega, by omega⟩
        rw [show lastA a.ca s.x 4 = 2 from by
          unfold lastA
          rw [if_pos (by rw [HCA.out.1, HCA.out.2.1, HCA.out.2.2]; decide)]
          exact hla] at h5
        exact h5
      clear hbd hla hq
      go_wp2_with fail
      refine Calls.mono HLS.out ?_
      rintro e w3 ⟨rfl, hb3⟩
      have HB3 : Hid (Below w.heap.size w w3) := HBL.out.trans (hb3.mono HBL.out.size)
      clear hb3 p0
      go_wp2_with fail
      go_ret
      exact ⟨rfl, HB3.out⟩
end Go.Proofs.Ytadfmnlkfcigoaa
