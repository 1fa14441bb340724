import Derived.Test.YtcnokgphioigoaaJq2
import Derived.Deep.Cut
import Derived.Deep.CutRange
import Derived.Deep.RegionWith
import Derived.BigQuiet
namespace Go.Proofs.Ytcnokgphioigoaa
open Go.RowKit Go.PlainAid
set_option linter.unusedVariables false
set_option linter.unusedSimpArgs false
set_option maxRecDepth 100000
set_option maxHeartbeats 6400000
theorem appends_dead {L vn vc : Nat} {d : DK} {y : JV} {R : List (Ent L)} {vo : Option Addr} {bs : List UInt8} (w : World) (h : Held (d.es L d.x (JE L d.jb y d.dead) R) w) (hd : DKO d y) (hall : ∀ W, Below L w W → By W (.slice vo vn vc) bs) (hl : bs.length = vn) (hvn : vn ≤ 140737488351232) (hwr : d.x.writes ≤ 800000000000000000) (hdd : d.dead = true) :
    Calls Try.prog 58 #[.pointer (some ⟨d.kb, 0, none⟩), .slice vo vn vc] w (ApQ L d vn R w) := by
  have hln := lent_any w (hall w (Below.refl _ _)) (by omega)
  rw [hl] at hln
  have HLN : Hid _ := hln
  have HALL : Hid (∀ W, Below L w W → By W (.slice vo vn vc) bs) := hall
  rw [hdd] at h
  have hJ : Held (d.es L d.x ([boxE L d.jb deadA 79]) R) w := h
  have HH : Hid (Held (d.es L d.x ([boxE L d.jb deadA 79]) R) w ∧ DKO d y ∧ d.x.writes ≤ 800000000000000000 ∧ bs.length = vn) := ⟨hJ, hd, hwr, hl⟩
  have HX : Hid (d.dead = true ∧ True) := ⟨hdd, trivial⟩
  have hkm := kS_pos vn
  clear h hJ hd hwr hall hl hln hdd
  go_enter Try.func58, Try.ntmps58
  go_wp2_with fail
  refine Calls.mono HLN.out ?_
  rintro e w1 ⟨g, cc, rfl, hcc, hown, hb1⟩
  clear HLN
  have hL : L ≤ w.heap.size := dk_lo HH.out.1
  have h1 : Held (datE L (.slice (some ⟨g, 0, none⟩) (vn + 2) cc, bs ++ mk2) :: d.es L d.x ([boxE L d.jb deadA 79]) R) w1 := Held.fresh (R := d.es L d.x ([boxE L d.jb deadA 79]) R) HH.out.1 hb1 (own_any (ownsRow_mono hown hL) (by rw [HH.out.2.2.2])) (fun j hj => by
    have e : some g = some j := hj
    cases e
    exact (ownsRow_lt hown (g := g) rfl).1)
  have HAP : Hid (∀ q, Calls Try.prog 16 #[.pointer (some ⟨d.jb, 0, none⟩), .slice (some ⟨g, 0, none⟩) vn cc] (w1.drewN q) fun e W' => e = .returned (.int .i64 200) ∧ ApMidG L d d.x (datE L (.slice (some ⟨g, 0, none⟩) (vn + 2) cc, bs ++ mk2)) R w (fun J' x' => J' = [boxE L d.jb deadA 79] ∧ x' = d.x) W') := mid_liftG (hb1.mono hL) h1 (fun W hW => by
    refine (ap_dead (T := dmE L d.p d.s d.x :: (datE L (.slice (some ⟨g, 0, none⟩) (vn + 2) cc, bs ++ mk2) :: boxE L d.kb d.cs 64 :: (haveE L d.hv d.hs ++ (imE L d.iv d.x :: R)))) W hW).mono ?_
    rintro e W' ⟨rfl, k1, k2⟩
    exact ⟨rfl, _, _, k1, k2, rfl, rfl⟩)
  have c1 : w1.cell? ⟨d.kb, 1, none⟩ = some (.pointer (some ⟨d.jb, 0, none⟩)) := (dk_box h1.drop).cell 1
  have hsl : ∀ W, (Instr.sliceAt 38 (.slice (some ⟨g, 0, none⟩) (vn + 2) cc) none (some (.int .i64 (vn : Int))) none).run Try.prog W = .ok (.slice (some ⟨g, 0, none⟩) vn cc) W := fun W => slice38h g 0 (vn + 2) cc vn (by omega) W
  have HCC : Hid (vn + 2 ≤ cc) := hcc
  clear hown hb1 h1 hcc hL
  go_wp2_with fail
  go_cut [6] from 12 to 20 (fun s6 wy => s6 = .int .i64 200 ∧ ApMidG L d d.x (datE L (.slice (some ⟨g, 0, none⟩) (vn + 2) cc, bs ++ mk2)) R w (fun J' x' => J' = [boxE L d.jb deadA 79] ∧ x' = d.x) wy)
  case first =>
    go_region_with (go_at_call 16; refine (by first | exact HAP.out 0 | exact HAP.out 1 : Calls Try.prog 16 _ _ _).mono ?_; rintro e w2 ⟨rfl, hm⟩)
    all_goals
      have HM : Hid _ := hm
      clear hm
      go_wp2_with fail
      go_meet
      case rel => exact ⟨rfl, HM.out⟩
  case rest =>
  obtain ⟨rfl, J', x', hH2, hb2, hQ⟩ := hcut
  clear hsl c1 HAP
  obtain ⟨rfl, rfl⟩ := hQ
  have hE : ({ d with x := d.x } : DK) = d := rfl
  rw [hE] at hH2
  clear hE
  have c3 : wc.cell? ⟨d.kb, 3, none⟩ = some (.bool d.on) := by have := (dk_box hH2.drop).cell 3; rw [this]; exact congrArg some (congrArg Value.bool rfl)
  have c8 : wc.cell? ⟨d.kb, 8, none⟩ = some (.bool true) := by have := (dk_box hH2.drop).cell 8; rw [this]; exact congrArg some (congrArg Value.bool HX.out.1)
  have f8 : wc.frozen? ⟨d.kb, 8, none⟩ = false := (dk_box hH2.drop).frozen 8
  have h8 : Held (datE L (.slice (some ⟨g, 0, none⟩) (vn + 2) cc, bs ++ mk2) :: ({ d with dead := true } : DK).es L d.x [boxE L d.jb deadA 79] R) (wc.setCell ⟨d.kb, 8, none⟩ (.bool true)) := dk_setE hH2 rfl rfl rfl rfl rfl rfl rfl rfl
  have hb8 : Below L w (wc.setCell ⟨d.kb, 8, none⟩ (.bool true)) := hb2.trans (dk_setB hH2.drop)
  have HBK : Hid _ := back_any _ (lent_dat h8 HH.out.2.2.2) HCC.out (HALL.out _ hb8) HH.out.2.2.2 (by omega)
  have HNM : Hid (∀ X : World, Calls Try.prog 12 #[.int .i64 200] X fun e w' => e = .returned (.int .i64 200) ∧ w' = X) := fun X => num_any 200 X
  have HFI : Hid (∀ W', Chg (fun k => k = g) (wc.setCell ⟨d.kb, 8, none⟩ (.bool true)) W' → Held (({ d with dead := true } : DK).es L d.x [boxE L d.jb deadA 79] R) W' ∧ Below L w W') := fun W' hc => ⟨Held.dropRow h8 hc, hb8.trans (hc.below (dk_lo h8.drop) (fun j hj => by rw [hj]; exact (ownsRow_lt (lent_dat h8 HH.out.2.2.2) rfl).1))⟩
  clear hH2 hb2 h8 hb8
  go_wp2_with fail
  refine Calls.mono HBK.out ?_
  rintro e w5 ⟨rfl, _, hc5⟩
  have HF5 : Hid _ := HFI.out w5 hc5
  clear HBK hc5 HFI c3 c8 f8
  go_wp2_with fail
  refine Calls.mono (HNM.out _) ?_
  rintro e wo ⟨rfl, hwo⟩
  replace hwo := hwo.symm
  subst hwo
  go_wp2_with fail
  go_ret
  have hdo := HH.out.2.1
  exact ⟨rfl, { d with dead := true }, y, HF5.out.1, ⟨hdo.n1, hdo.n2, hdo.eon, hdo.arm, hdo.dis, hdo.wh, hdo.tn, hdo.tb, hdo.ehv, hdo.hl, hdo.le, fun e => by cases e⟩, ⟨rfl, rfl, rfl, rfl, rfl⟩, by show d.x.writes ≤ _; omega, HF5.out.2⟩
theorem appends_off {L vn vc : Nat} {d : DK} {y : JV} {R : List (Ent L)} {vo : Option Addr} {bs : List UInt8} (w : World) (h : Held (d.es L d.x (JE L d.jb y d.dead) R) w) (hd : DKO d y) (hall : ∀ W, Below L w W → By W (.slice vo vn vc) bs) (hl : bs.length = vn) (hvn : vn ≤ 140737488351232) (hwr : d.x.writes ≤ 800000000000000000) (hdd : d.dead = false) (hoff : d.x.off = true) :
    Calls Try.prog 58 #[.pointer (some ⟨d.kb, 0, none⟩), .slice vo vn vc] w (ApQ L d vn R w) := by
  have hln := lent_any w (hall w (Below.refl _ _)) (by omega)
  rw [hl] at hln
  have HLN : Hid _ := hln
  have HALL : Hid (∀ W, Below L w W → By W (.slice vo vn vc) bs) := hall
  rw [hdd] at h
  have hJ : Held (d.es L d.x (y.es L d.jb) R) w := h
  have HH : Hid (Held (d.es L d.x (y.es L d.jb) R) w ∧ DKO d y ∧ d.x.writes ≤ 800000000000000000 ∧ bs.length = vn) := ⟨hJ, hd, hwr, hl⟩
  have HX : Hid (d.dead = false ∧ d.x.off = true) := ⟨hdd, hoff⟩
  have hkm := kS_pos vn
  clear h hJ hd hwr hall hl hln hdd hoff
  go_enter Try.func58, Try.ntmps58
  go_wp2_with fail
  refine Calls.mono HLN.out ?_
  rintro e w1 ⟨g, cc, rfl, hcc, hown, hb1⟩
  clear HLN
  have hL : L ≤ w.heap.size := dk_lo HH.out.1
  have h1 : Held (datE L (.slice (some ⟨g, 0, none⟩) (vn + 2) cc, bs ++ mk2) :: d.es L d.x (y.es L d.jb) R) w1 := Held.fresh (R := d.es L d.x (y.es L d.jb) R) HH.out.1 hb1 (own_any (ownsRow_mono hown hL) (by rw [HH.out.2.2.2])) (fun j hj => by
    have e : some g = some j := hj
    cases e
    exact (ownsRow_lt hown (g := g) rfl).1)
  have HAP : Hid (∀ q, Calls Try.prog 16 #[.pointer (some ⟨d.jb, 0, none⟩), .slice (some ⟨g, 0, none⟩) vn cc] (w1.drewN q) fun e W' => e = .returned (.int .i64 200) ∧ ApMidG L d d.x (datE L (.slice (some ⟨g, 0, none⟩) (vn + 2) cc, bs ++ mk2)) R w (fun J' x' => J' = [boxE L d.jb deadA 79] ∧ x' = d.x) W') := mid_liftG (hb1.mono hL) h1 (fun W hW => by
    have hlv := HH.out.2.1.live HX.out.1
    rw [← hlv.1] at hW ⊢
    refine (ap_off (T := datE L (.slice (some ⟨g, 0, none⟩) (vn + 2) cc, bs ++ mk2) :: boxE L d.kb d.cs 64 :: (haveE L d.hv d.hs ++ (imE L d.iv d.x :: R))) W hW HX.out.2).mono ?_
    rintro e W' ⟨rfl, k1, k2⟩
    exact ⟨rfl, _, _, k1, k2, rfl, rfl⟩)
  have c1 : w1.cell? ⟨d.kb, 1, none⟩ = some (.pointer (some ⟨d.jb, 0, none⟩)) := (dk_box h1.drop).cell 1
  have hsl : ∀ W, (Instr.sliceAt 38 (.slice (some ⟨g, 0, none⟩) (vn + 2) cc) none (some (.int .i64 (vn : Int))) none).run Try.prog W = .ok (.slice (some ⟨g, 0, none⟩) vn cc) W := fun W => slice38h g 0 (vn + 2) cc vn (by omega) W
  have HCC : Hid (vn + 2 ≤ cc) := hcc
  clear hown hb1 h1 hcc hL
  go_wp2_with fail
  go_cut [6] from 12 to 20 (fun s6 wy => s6 = .int .i64 200 ∧ ApMidG L d d.x (datE L (.slice (some ⟨g, 0, none⟩) (vn + 2) cc, bs ++ mk2)) R w (fun J' x' => J' = [boxE L d.jb deadA 79] ∧ x' = d.x) wy)
  case first =>
    go_region_with (go_at_call 16; refine (by first | exact HAP.out 0 | exact HAP.out 1 : Calls Try.prog 16 _ _ _).mono ?_; rintro e w2 ⟨rfl, hm⟩)
    all_goals
      have HM : Hid _ := hm
      clear hm
      go_wp2_with fail
      go_meet
      case rel => exact ⟨rfl, HM.out⟩
  case rest =>
  obtain ⟨rfl, J', x', hH2, hb2, hQ⟩ := hcut
  clear hsl c1 HAP
  obtain ⟨rfl, rfl⟩ := hQ
  have hE : ({ d with x := d.x } : DK) = d := rfl
  rw [hE] at hH2
  clear hE
  have c3 : wc.cell? ⟨d.kb, 3, none⟩ = some (.bool false) := by have := (dk_box hH2.drop).cell 3; rw [this]; exact congrArg some (congrArg Value.bool (by show d.on = false; rw [HH.out.2.1.eon, HX.out.2]; rfl))
  have c8 : wc.cell? ⟨d.kb, 8, none⟩ = some (.bool false) := by have := (dk_box hH2.drop).cell 8; rw [this]; exact congrArg some (congrArg Value.bool HX.out.1)
  have f8 : wc.frozen? ⟨d.kb, 8, none⟩ = false := (dk_box hH2.drop).frozen 8
  have h8 : Held (datE L (.slice (some ⟨g, 0, none⟩) (vn + 2) cc, bs ++ mk2) :: ({ d with dead := true } : DK).es L d.x [boxE L d.jb deadA 79] R) (wc.setCell ⟨d.kb, 8, none⟩ (.bool true)) := dk_setE hH2 rfl rfl rfl rfl rfl rfl rfl rfl
  have hb8 : Below L w (wc.setCell ⟨d.kb, 8, none⟩ (.bool true)) := hb2.trans (dk_setB hH2.drop)
  have HBK : Hid _ := back_any _ (lent_dat h8 HH.out.2.2.2) HCC.out (HALL.out _ hb8) HH.out.2.2.2 (by omega)
  have HNM : Hid (∀ X : World, Calls Try.prog 12 #[.int .i64 200] X fun e w' => e = .returned (.int .i64 200) ∧ w' = X) := fun X => num_any 200 X
  have HFI : Hid (∀ W', Chg (fun k => k = g) (wc.setCell ⟨d.kb, 8, none⟩ (.bool true)) W' → Held (({ d with dead := true } : DK).es L d.x [boxE L d.jb deadA 79] R) W' ∧ Below L w W') := fun W' hc => ⟨Held.dropRow h8 hc, hb8.trans (hc.below (dk_lo h8.drop) (fun j hj => by rw [hj]; exact (ownsRow_lt (lent_dat h8 HH.out.2.2.2) rfl).1))⟩
  clear hH2 hb2 h8 hb8
  go_wp2_with fail
  refine Calls.mono HBK.out ?_
  rintro e w5 ⟨rfl, _, hc5⟩
  have HF5 : Hid _ := HFI.out w5 hc5
  clear HBK hc5 HFI c3 c8 f8
  go_wp2_with fail
  refine Calls.mono (HNM.out _) ?_
  rintro e wo ⟨rfl, hwo⟩
  replace hwo := hwo.symm
  subst hwo
  go_wp2_with fail
  go_ret
  have hdo := HH.out.2.1
  exact ⟨rfl, { d with dead := true }, y, HF5.out.1, ⟨hdo.n1, hdo.n2, hdo.eon, hdo.arm, hdo.dis, hdo.wh, hdo.tn, hdo.tb, hdo.ehv, hdo.hl, hdo.le, fun e => by cases e⟩, ⟨rfl, rfl, rfl, rfl, rfl⟩, by show d.x.writes ≤ _; omega, HF5.out.2⟩
end Go.Proofs.Ytcnokgphioigoaa
