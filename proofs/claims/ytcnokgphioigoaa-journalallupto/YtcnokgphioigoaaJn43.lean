import Derived.Test.YtcnokgphioigoaaJn42
import Derived.Deep.Cut
import Derived.Deep.CutRange
import Derived.Deep.RegionWith
import Derived.BigQuiet
namespace Go.Proofs.Ytcnokgphioigoaa
open Go.RowKit Go.PlainAid
set_option linter.unusedVariables false
set_option linter.unusedSimpArgs false
set_option maxRecDepth 100000
set_option maxHeartbeats 6400000
theorem appends_space {L kb p s sb jb vn vc : Nat} {x : DV} {y : JV} {iv : Value} {torn : Int} {hv : Value} {hs : List (Value × List UInt8)} {next : Nat} {R : List (Ent L)} {vo : Option Addr} {bs : List UInt8} (w : World) (h : Held (deskG L kb p s sb jb x y iv (-1) torn hv hs next R) w) (hd : DOk p x y hv hs next) (hx : XOk x next) (hall : ∀ W, Below L w W → By W (.slice vo vn vc) bs) (hl : bs.length = vn) (hvn : vn ≤ 140737488351232) (h8 : vn ≤ 8192) (hrm : x.n < next + kS vn) :
    Calls Try.prog 58 #[.pointer (some ⟨kb, 0, none⟩), .slice vo vn vc] w (ApPost L kb p s sb jb vn x iv torn R w) := by
  have hln := lent_any w (hall w (Below.refl _ _)) (by omega)
  rw [hl] at hln
  have HLN : Hid _ := hln
  have HALL : Hid (∀ W, Below L w W → By W (.slice vo vn vc) bs) := hall
  have HH : Hid (Held (deskG L kb p s sb jb x y iv (-1) torn hv hs next R) w ∧ DOk p x y hv hs next ∧ XOk x next ∧ bs.length = vn) := ⟨h, hd, hx, hl⟩
  have hkm := kS_pos vn
  clear h hd hx hall hl hln
  go_enter Try.func58, Try.ntmps58
  go_wp2_with fail
  refine Calls.mono HLN.out ?_
  rintro e w1 ⟨g, cc, rfl, hcc, hown, hb1⟩
  clear HLN
  have hL : L ≤ w.heap.size := desk_lo HH.out.1
  have h1 : Held (datE L (.slice (some ⟨g, 0, none⟩) (vn + 2) cc, bs ++ mk2) :: deskH L kb p s sb jb x x y iv (-1) torn hv hs next R) w1 := Held.fresh (R := deskG L kb p s sb jb x y iv (-1) torn hv hs next R) HH.out.1 hb1 (own_any (ownsRow_mono hown hL) (by rw [HH.out.2.2.2])) (fun j hj => by
    have e : some g = some j := hj
    cases e
    exact (ownsRow_lt hown (g := g) rfl).1)
  have hpp := HH.out.2.1.ep
  have hlen := HH.out.2.1.len
  have hnxx := HH.out.2.1.enx
  have hfin := HH.out.2.1.fin
  have hle := HH.out.2.1.le
  have hn2 := HH.out.2.1.n2
  have hhl := HH.out.2.1.hl
  have hxo := HH.out.2.2.1
  have HAP : Hid (∀ q, Calls Try.prog 16 #[.pointer (some ⟨jb, 0, none⟩), .slice (some ⟨g, 0, none⟩) vn cc] (w1.drewN q) fun e W' => e = .returned (.int .i64 211) ∧ ApMid L kb p s sb jb g vn cc x iv torn hv hs next bs R w (fun y' x' => y' = y ∧ x' = x) W') := mid_lift (hb1.mono hL) (Nat.le_trans hL hb1.size) h1 (fun W hW => by
    subst hpp
    refine (append_space (bs := bs) W hW (fun W2 _ hR => lent_by hR HH.out.2.2.2) (by omega) h8 hxo.off hxo.armed (by rw [hxo.whole]; omega) (by have := hxo.writes; omega) (by omega) (by rw [hnxx, hfin]; exact hrm) (by rw [hnxx, hfin]; exact hle) hfin (by omega)).mono ?_
    rintro e W' ⟨rfl, k1, k2⟩
    exact ⟨rfl, y, x, k1, k2, rfl, rfl⟩)
  have c1 : w1.cell? ⟨kb, 1, none⟩ = some (.pointer (some ⟨jb, 0, none⟩)) := (deskH_box h1).cell 1
  have hsl : ∀ W, (Instr.sliceAt 38 (.slice (some ⟨g, 0, none⟩) (vn + 2) cc) none (some (.int .i64 (vn : Int))) none).run Try.prog W = .ok (.slice (some ⟨g, 0, none⟩) vn cc) W := fun W => slice38h g 0 (vn + 2) cc vn (by omega) W
  have HCC : Hid (vn + 2 ≤ cc) := hcc
  clear hown hb1 h1 hcc hL hpp hlen hnxx hfin hle hn2 hhl hxo
  go_wp2_with fail
  go_cut [6] from 12 to 20 (fun s6 wy => s6 = .int .i64 211 ∧ ApMid L kb p s sb jb g vn cc x iv torn hv hs next bs R w (fun y' x' => y' = y ∧ x' = x) wy)
  case first =>
    go_region_with (go_at_call 16; refine (by first | exact HAP.out 0 | exact HAP.out 1 : Calls Try.prog 16 _ _ _).mono ?_; rintro e w2 ⟨rfl, hm⟩)
    all_goals
      have HM : Hid _ := hm
      clear hm
      go_wp2_with fail
      go_meet
      case rel => exact ⟨rfl, HM.out⟩
  case rest =>
  obtain ⟨rfl, y', x', hH2, hb2, hQ⟩ := hcut
  clear hsl c1 HAP
  have c3 : wc.cell? ⟨kb, 3, none⟩ = some (.bool true) := (deskH_box hH2).cell 3
  have c8 : wc.cell? ⟨kb, 8, none⟩ = some (.bool false) := (deskH_box hH2).cell 8
  have hv8 : ¬ ((8192 : Int) < (vn : Int)) := by omega
  obtain ⟨rfl, rfl⟩ := hQ
  have hle := HH.out.2.1.le
  have hn1 := HH.out.2.1.n1
  have hn2 := HH.out.2.1.n2
  have HKC : Hid (∀ q, Calls Try.prog 59 #[.int .i64 (vn : Int)] (wc.drewN q) fun e w' => e = .returned (.int .i64 (kS vn : Int)) ∧ w' = wc.drewN q) := fun q => count_any vn _ (by omega)
  obtain ⟨ig, ic, hie, _, _⟩ := im_lit (desk_im (Held.drop hH2)) hn1
  have c2 : wc.cell? ⟨kb, 2, none⟩ = some (.slice (some ⟨ig, 0, none⟩) (x'.n * 512) ic) := by rw [← hie]; exact (deskH_box hH2).cell 2
  have c7 : wc.cell? ⟨kb, 7, none⟩ = some (.int .i64 (next : Int)) := (deskH_box hH2).cell 7
  have hq : Int.tdiv ((x'.n * 512 : Nat) : Int) 512 = (x'.n : Int) := by rw [Int.tdiv_eq_ediv_of_nonneg (by omega)]; omega
  have hk2 := kS_le vn h8
  obtain ⟨k, hk⟩ : ∃ k, k = kS vn := ⟨_, rfl⟩
  rw [← hk] at HKC hrm hk2
  obtain ⟨N, hN⟩ : ∃ N, N = x'.n := ⟨_, rfl⟩
  rw [← hN] at c2 hq hrm hle hn2
  have hgt : (N : Int) - (next : Int) < (k : Int) := by omega
  have HH2 : Hid (Held (datE L (.slice (some ⟨g, 0, none⟩) (vn + 2) cc, bs ++ mk2) :: deskG L kb p s sb jb x' y' iv (-1) torn hv hs next R) wc ∧ Below L w wc) := ⟨hH2, hb2⟩
  clear hH2 hb2 hie hk hN hn1 hkm
  go_wp2_with fail
  go_quiet (first | (go_at_call 59; refine Calls.quiet_of_same (HKC.out _)))
  have hH3 : Held (datE L (.slice (some ⟨g, 0, none⟩) (vn + 2) cc, bs ++ mk2) :: deskG L kb p s sb jb x' y' iv (-1) torn hv hs next R) (wc.drewN nq) := HH2.out.1.drewN nq
  have hb3 : Below L w (wc.drewN nq) := below_dr HH2.out.2 nq
  clear HKC HH2 c2 c7 c3 c8
  generalize wc.drewN nq = X at hH3 hb3 ⊢
  have HBK : Hid _ := back_any X (lent_dat hH3 HH.out.2.2.2) HCC.out (HALL.out X hb3) HH.out.2.2.2 (by omega)
  have HNM : Hid (∀ X : World, Calls Try.prog 12 #[.int .i64 211] X fun e w' => e = .returned (.int .i64 211) ∧ w' = X) := fun X => num_any 211 X
  have HFI : Hid ((∀ W', Chg (fun k => k = g) X W' → Held (deskG L kb p s sb jb x' y' iv (-1) torn hv hs next R) W' ∧ Below L w W')) := fun W' hc => ⟨Held.dropRow hH3 hc, hb3.trans (hc.below (desk_lo (Held.drop hH3)) (fun j hj => by rw [hj]; exact (ownsRow_lt (lent_dat hH3 HH.out.2.2.2) rfl).1))⟩
  clear hH3 hb3
  go_wp2_with fail
  refine Calls.mono HBK.out ?_
  rintro e w5 ⟨rfl, _, hc5⟩
  have HF5 : Hid _ := HFI.out w5 hc5
  clear HBK hc5 HFI
  go_wp2_with fail
  refine Calls.mono (HNM.out _) ?_
  rintro e wo ⟨rfl, hwo⟩
  replace hwo := hwo.symm
  subst hwo
  go_wp2_with fail
  go_ret
  unfold ApPost
  exact ⟨rfl, y', x', hv, hs, next, HF5.out.1, HH.out.2.1, HH.out.2.2.1, rfl, by omega, HF5.out.2⟩
end Go.Proofs.Ytcnokgphioigoaa
