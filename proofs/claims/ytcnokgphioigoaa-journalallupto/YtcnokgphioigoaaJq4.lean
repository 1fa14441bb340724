import Derived.Test.YtcnokgphioigoaaJq2
import Derived.Deep.Cut
import Derived.Deep.CutRange
import Derived.Deep.RegionWith
import Derived.BigQuiet
namespace Go.Proofs.Ytcnokgphioigoaa
open Go.RowKit Go.PlainAid
set_option linter.unusedVariables false
set_option linter.unusedSimpArgs false
set_option maxRecDepth 100000
set_option maxHeartbeats 6400000
theorem appends_bigG {L vn vc : Nat} {d : DK} {y : JV} {R : List (Ent L)} {vo : Option Addr} {bs : List UInt8} (w : World) (h : Held (d.es L d.x (JE L d.jb y d.dead) R) w) (hd : DKO d y) (hall : ∀ W, Below L w W → By W (.slice vo vn vc) bs) (hl : bs.length = vn) (hvn : vn ≤ 140737488351232) (hwr : d.x.writes ≤ 800000000000000000) (hdd : d.dead = false) (hoff : d.x.off = false) (h8 : 8192 < vn) :
    Calls Try.prog 58 #[.pointer (some ⟨d.kb, 0, none⟩), .slice vo vn vc] w (ApQ L d vn R w) := by
  have hln := lent_any w (hall w (Below.refl _ _)) (by omega)
  rw [hl] at hln
  have HLN : Hid _ := hln
  have HALL : Hid (∀ W, Below L w W → By W (.slice vo vn vc) bs) := hall
  rw [hdd] at h
  have hJ : Held (d.es L d.x (y.es L d.jb) R) w := h
  have HH : Hid (Held (d.es L d.x (y.es L d.jb) R) w ∧ DKO d y ∧ d.x.writes ≤ 800000000000000000 ∧ bs.length = vn) := ⟨hJ, hd, hwr, hl⟩
  have HX : Hid (d.dead = false ∧ d.x.off = false ∧ 8192 < vn) := ⟨hdd, hoff, h8⟩
  have hkm := kS_pos vn
  clear h hJ hd hwr hall hl hln hdd hoff
  go_enter Try.func58, Try.ntmps58
  go_wp2_with fail
  refine Calls.mono HLN.out ?_
  rintro e w1 ⟨g, cc, rfl, hcc, hown, hb1⟩
  clear HLN
  have hL : L ≤ w.heap.size := dk_lo HH.out.1
  have h1 : Held (datE L (.slice (some ⟨g, 0, none⟩) (vn + 2) cc, bs ++ mk2) :: d.es L d.x (y.es L d.jb) R) w1 := Held.fresh (R := d.es L d.x (y.es L d.jb) R) HH.out.1 hb1 (own_any (ownsRow_mono hown hL) (by rw [HH.out.2.2.2])) (fun j hj => by
    have e : some g = some j := hj
    cases e
    exact (ownsRow_lt hown (g := g) rfl).1)
  have HAP : Hid (∀ q, Calls Try.prog 16 #[.pointer (some ⟨d.jb, 0, none⟩), .slice (some ⟨g, 0, none⟩) vn cc] (w1.drewN q) fun e W' => e = .returned (.int .i64 2) ∧ ApMidG L d d.x (datE L (.slice (some ⟨g, 0, none⟩) (vn + 2) cc, bs ++ mk2)) R w (fun J' x' => J' = y.es L d.jb ∧ x' = d.x) W') := mid_liftG (hb1.mono hL) h1 (fun W hW => by
    have hlv := HH.out.2.1.live HX.out.1
    rw [← hlv.1] at hW ⊢
    refine (append_long W hW h8 (by omega) HX.out.2.1).mono ?_
    rintro e W' ⟨rfl, k1, k2⟩
    exact ⟨rfl, _, _, k1, k2, rfl, rfl⟩)
  have c1 : w1.cell? ⟨d.kb, 1, none⟩ = some (.pointer (some ⟨d.jb, 0, none⟩)) := (dk_box h1.drop).cell 1
  have hsl : ∀ W, (Instr.sliceAt 38 (.slice (some ⟨g, 0, none⟩) (vn + 2) cc) none (some (.int .i64 (vn : Int))) none).run Try.prog W = .ok (.slice (some ⟨g, 0, none⟩) vn cc) W := fun W => slice38h g 0 (vn + 2) cc vn (by omega) W
  have HCC : Hid (vn + 2 ≤ cc) := hcc
  clear hown hb1 h1 hcc hL
  go_wp2_with fail
  go_cut [6] from 12 to 20 (fun s6 wy => s6 = .int .i64 2 ∧ ApMidG L d d.x (datE L (.slice (some ⟨g, 0, none⟩) (vn + 2) cc, bs ++ mk2)) R w (fun J' x' => J' = y.es L d.jb ∧ x' = d.x) wy)
  case first =>
    go_region_with (go_at_call 16; refine (by first | exact HAP.out 0 | exact HAP.out 1 : Calls Try.prog 16 _ _ _).mono ?_; rintro e w2 ⟨rfl, hm⟩)
    all_goals
      have HM : Hid _ := hm
      clear hm
      go_wp2_with fail
      go_meet
      case rel => exact ⟨rfl, HM.out⟩
  case rest =>
  obtain ⟨rfl, J', x', hH2, hb2, hQ⟩ := hcut
  clear hsl c1 HAP
  obtain ⟨rfl, rfl⟩ := hQ
  have hE : ({ d with x := d.x } : DK) = d := rfl
  rw [hE] at hH2
  clear hE
  have c3 : wc.cell? ⟨d.kb, 3, none⟩ = some (.bool true) := by have := (dk_box hH2.drop).cell 3; rw [this]; exact congrArg some (congrArg Value.bool (by show d.on = true; rw [HH.out.2.1.eon, HX.out.2.1]; rfl))
  have c8 : wc.cell? ⟨d.kb, 8, none⟩ = some (.bool false) := by have := (dk_box hH2.drop).cell 8; rw [this]; exact congrArg some (congrArg Value.bool HX.out.1)
  have hv8 : (8192 : Int) < (vn : Int) := by omega
  obtain ⟨X, hX⟩ : ∃ X, X = wc := ⟨_, rfl⟩
  subst hX
  have hH3 := hH2
  have hb3 := hb2
  clear hH2 hb2
  have HBK : Hid _ := back_any _ (lent_dat hH3 HH.out.2.2.2) HCC.out (HALL.out X hb3) HH.out.2.2.2 (by omega)
  have HNM : Hid (∀ X : World, Calls Try.prog 12 #[.int .i64 2] X fun e w' => e = .returned (.int .i64 2) ∧ w' = X) := fun X => num_any 2 X
  have HFI : Hid (∀ W', Chg (fun k => k = g) X W' → Held (d.es L d.x (y.es L d.jb) R) W' ∧ Below L w W') := fun W' hc => ⟨Held.dropRow hH3 hc, hb3.trans (hc.below (dk_lo hH3.drop) (fun j hj => by rw [hj]; exact (ownsRow_lt (lent_dat hH3 HH.out.2.2.2) rfl).1))⟩
  clear hH3 hb3
  go_wp2_with fail
  refine Calls.mono HBK.out ?_
  rintro e w5 ⟨rfl, _, hc5⟩
  have HF5 : Hid _ := HFI.out w5 hc5
  clear HBK hc5 HFI c3 c8
  go_wp2_with fail
  refine Calls.mono (HNM.out _) ?_
  rintro e wo ⟨rfl, hwo⟩
  replace hwo := hwo.symm
  subst hwo
  go_wp2_with fail
  go_ret
  exact ⟨rfl, d, y, by rw [HX.out.1]; exact HF5.out.1, HH.out.2.1, DSame.refl d, by omega, HF5.out.2⟩
theorem appends_spaceG {L vn vc : Nat} {d : DK} {y : JV} {R : List (Ent L)} {vo : Option Addr} {bs : List UInt8} (w : World) (h : Held (d.es L d.x (JE L d.jb y d.dead) R) w) (hd : DKO d y) (hall : ∀ W, Below L w W → By W (.slice vo vn vc) bs) (hl : bs.length = vn) (hvn : vn ≤ 140737488351232) (hwr : d.x.writes ≤ 800000000000000000) (hdd : d.dead = false) (hoff : d.x.off = false) (h8 : vn ≤ 8192) (hrm : d.x.n < d.next + kS vn) :
    Calls Try.prog 58 #[.pointer (some ⟨d.kb, 0, none⟩), .slice vo vn vc] w (ApQ L d vn R w) := by
  have hln := lent_any w (hall w (Below.refl _ _)) (by omega)
  rw [hl] at hln
  have HLN : Hid _ := hln
  have HALL : Hid (∀ W, Below L w W → By W (.slice vo vn vc) bs) := hall
  rw [hdd] at h
  have hJ : Held (d.es L d.x (y.es L d.jb) R) w := h
  have HH : Hid (Held (d.es L d.x (y.es L d.jb) R) w ∧ DKO d y ∧ d.x.writes ≤ 800000000000000000 ∧ bs.length = vn) := ⟨hJ, hd, hwr, hl⟩
  have HX : Hid (d.dead = false ∧ d.x.off = false ∧ d.x.n < d.next + kS vn) := ⟨hdd, hoff, hrm⟩
  have hkm := kS_pos vn
  clear h hJ hd hwr hall hl hln hdd hoff hrm
  go_enter Try.func58, Try.ntmps58
  go_wp2_with fail
  refine Calls.mono HLN.out ?_
  rintro e w1 ⟨g, cc, rfl, hcc, hown, hb1⟩
  clear HLN
  have hL : L ≤ w.heap.size := dk_lo HH.out.1
  have h1 : Held (datE L (.slice (some ⟨g, 0, none⟩) (vn + 2) cc, bs ++ mk2) :: d.es L d.x (y.es L d.jb) R) w1 := Held.fresh (R := d.es L d.x (y.es L d.jb) R) HH.out.1 hb1 (own_any (ownsRow_mono hown hL) (by rw [HH.out.2.2.2])) (fun j hj => by
    have e : some g = some j := hj
    cases e
    exact (ownsRow_lt hown (g := g) rfl).1)
  have HAP : Hid (∀ q, Calls Try.prog 16 #[.pointer (some ⟨d.jb, 0, none⟩), .slice (some ⟨g, 0, none⟩) vn cc] (w1.drewN q) fun e W' => e = .returned (.int .i64 211) ∧ ApMidG L d d.x (datE L (.slice (some ⟨g, 0, none⟩) (vn + 2) cc, bs ++ mk2)) R w (fun J' x' => J' = y.es L d.jb ∧ x' = d.x) W') := mid_liftG (hb1.mono hL) h1 (fun W hW => by
    have hlv := HH.out.2.1.live HX.out.1
    have hle := HH.out.2.1.le
    have hn2 := HH.out.2.1.n2
    have hhl := HH.out.2.1.hl
    have hlen : y.recs.length = d.hs.length := by have := congrArg List.length hlv.2.1; simpa using this
    rw [← hlv.1] at hW ⊢
    refine (append_room (bs := bs) W hW (fun W2 _ hR => lent_by hR HH.out.2.2.2) (by omega) h8 HX.out.2.1 (by omega) (by rw [hlv.2.2.1, hlv.2.2.2.1]; exact HX.out.2.2) (by rw [hlv.2.2.1, hlv.2.2.2.1]; exact hle) hlv.2.2.2.1 (by omega)).mono ?_
    rintro e W' ⟨rfl, k1, k2⟩
    exact ⟨rfl, _, _, k1, k2, rfl, rfl⟩)
  have c1 : w1.cell? ⟨d.kb, 1, none⟩ = some (.pointer (some ⟨d.jb, 0, none⟩)) := (dk_box h1.drop).cell 1
  have hsl : ∀ W, (Instr.sliceAt 38 (.slice (some ⟨g, 0, none⟩) (vn + 2) cc) none (some (.int .i64 (vn : Int))) none).run Try.prog W = .ok (.slice (some ⟨g, 0, none⟩) vn cc) W := fun W => slice38h g 0 (vn + 2) cc vn (by omega) W
  have HCC : Hid (vn + 2 ≤ cc) := hcc
  clear hown hb1 h1 hcc hL
  go_wp2_with fail
  go_cut [6] from 12 to 20 (fun s6 wy => s6 = .int .i64 211 ∧ ApMidG L d d.x (datE L (.slice (some ⟨g, 0, none⟩) (vn + 2) cc, bs ++ mk2)) R w (fun J' x' => J' = y.es L d.jb ∧ x' = d.x) wy)
  case first =>
    go_region_with (go_at_call 16; refine (by first | exact HAP.out 0 | exact HAP.out 1 : Calls Try.prog 16 _ _ _).mono ?_; rintro e w2 ⟨rfl, hm⟩)
    all_goals
      have HM : Hid _ := hm
      clear hm
      go_wp2_with fail
      go_meet
      case rel => exact ⟨rfl, HM.out⟩
  case rest =>
  obtain ⟨rfl, J', x', hH2, hb2, hQ⟩ := hcut
  clear hsl c1 HAP
  obtain ⟨rfl, rfl⟩ := hQ
  have hE : ({ d with x := d.x } : DK) = d := rfl
  rw [hE] at hH2
  clear hE
  have c3 : wc.cell? ⟨d.kb, 3, none⟩ = some (.bool true) := by have := (dk_box hH2.drop).cell 3; rw [this]; exact congrArg some (congrArg Value.bool (by show d.on = true; rw [HH.out.2.1.eon, HX.out.2.1]; rfl))
  have c8 : wc.cell? ⟨d.kb, 8, none⟩ = some (.bool false) := by have := (dk_box hH2.drop).cell 8; rw [this]; exact congrArg some (congrArg Value.bool HX.out.1)
  have hv8 : ¬ ((8192 : Int) < (vn : Int)) := by omega
  have hrm := HX.out.2.2
  have hle := HH.out.2.1.le
  have hn1 := HH.out.2.1.n1
  have hn2 := HH.out.2.1.n2
  have HKC : Hid (∀ q, Calls Try.prog 59 #[.int .i64 (vn : Int)] (wc.drewN q) fun e w' => e = .returned (.int .i64 (kS vn : Int)) ∧ w' = wc.drewN q) := fun q => count_any vn _ (by omega)
  obtain ⟨ig, ic, hie, _, _⟩ := im_lit (dk_im hH2.drop) hn1
  have c2 : wc.cell? ⟨d.kb, 2, none⟩ = some (.slice (some ⟨ig, 0, none⟩) (d.x.n * 512) ic) := by rw [← hie]; exact (dk_box hH2.drop).cell 2
  have c7 : wc.cell? ⟨d.kb, 7, none⟩ = some (.int .i64 (d.next : Int)) := (dk_box hH2.drop).cell 7
  have hq : Int.tdiv ((d.x.n * 512 : Nat) : Int) 512 = (d.x.n : Int) := by rw [Int.tdiv_eq_ediv_of_nonneg (by omega)]; omega
  have hk2 := kS_le vn h8
  obtain ⟨k, hk⟩ : ∃ k, k = kS vn := ⟨_, rfl⟩
  rw [← hk] at HKC hrm hk2
  obtain ⟨N, hN⟩ : ∃ N, N = d.x.n := ⟨_, rfl⟩
  rw [← hN] at c2 hq hrm hle hn2
  have hgt : (N : Int) - (d.next : Int) < (k : Int) := by omega
  have HH2 : Hid (Held (datE L (.slice (some ⟨g, 0, none⟩) (vn + 2) cc, bs ++ mk2) :: d.es L d.x (y.es L d.jb) R) wc ∧ Below L w wc) := ⟨hH2, hb2⟩
  clear hH2 hb2 hie hk hN hn1 hkm
  go_wp2_with fail
  go_quiet (first | (go_at_call 59; refine Calls.quiet_of_same (HKC.out _)))
  have hH3 : Held (datE L (.slice (some ⟨g, 0, none⟩) (vn + 2) cc, bs ++ mk2) :: d.es L d.x (y.es L d.jb) R) (wc.drewN nq) := HH2.out.1.drewN nq
  have hb3 : Below L w (wc.drewN nq) := below_dr HH2.out.2 nq
  clear HKC HH2 c2 c7 c3 c8
  generalize wc.drewN nq = X at hH3 hb3 ⊢
  have HBK : Hid _ := back_any X (lent_dat hH3 HH.out.2.2.2) HCC.out (HALL.out X hb3) HH.out.2.2.2 (by omega)
  have HNM : Hid (∀ X : World, Calls Try.prog 12 #[.int .i64 211] X fun e w' => e = .returned (.int .i64 211) ∧ w' = X) := fun X => num_any 211 X
  have HFI : Hid (∀ W', Chg (fun k => k = g) X W' → Held (d.es L d.x (y.es L d.jb) R) W' ∧ Below L w W') := fun W' hc => ⟨Held.dropRow hH3 hc, hb3.trans (hc.below (dk_lo hH3.drop) (fun j hj => by rw [hj]; exact (ownsRow_lt (lent_dat hH3 HH.out.2.2.2) rfl).1))⟩
  clear hH3 hb3
  go_wp2_with fail
  refine Calls.mono HBK.out ?_
  rintro e w5 ⟨rfl, _, hc5⟩
  have HF5 : Hid _ := HFI.out w5 hc5
  clear HBK hc5 HFI
  go_wp2_with fail
  refine Calls.mono (HNM.out _) ?_
  rintro e wo ⟨rfl, hwo⟩
  replace hwo := hwo.symm
  subst hwo
  go_wp2_with fail
  go_ret
  exact ⟨rfl, d, y, by rw [HX.out.1]; exact HF5.out.1, HH.out.2.1, DSame.refl d, by omega, HF5.out.2⟩
end Go.Proofs.Ytcnokgphioigoaa
