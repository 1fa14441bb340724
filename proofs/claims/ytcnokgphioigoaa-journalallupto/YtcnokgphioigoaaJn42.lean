import Derived.Test.YtcnokgphioigoaaJK
import Derived.Test.YtcnokgphioigoaaJD
import Derived.Test.YtcnokgphioigoaaJB
import Derived.Deep.Cut
import Derived.Deep.CutRange
import Derived.Deep.RegionWith
import Derived.BigQuiet
namespace Go.Proofs.Ytcnokgphioigoaa
open Go.RowKit Go.PlainAid
set_option linter.unusedVariables false
set_option linter.unusedSimpArgs false
set_option maxRecDepth 100000
set_option maxHeartbeats 6400000
/-- The power never fails. -/
structure XOk (x : DV) (next : Nat) : Prop where
  off : x.off = false
  armed : x.armed = false
  whole : x.whole = 0
  writes : x.writes ≤ next
/-- A desk whose image is not yet its disk's. -/
def deskH (L kb p s sb jb : Nat) (xi x : DV) (y : JV) (iv : Value) (left torn : Int) (hv : Value) (hs : List (Value × List UInt8)) (next : Nat) (R : List (Ent L)) : List (Ent L) := boxE L kb (deskC p (.pointer (some ⟨jb, 0, none⟩)) iv true left torn hv next false sb) 64 :: (haveE L hv hs ++ (imE L iv xi :: (y.es L jb ++ (dmE L p s x :: R))))
def ApPost (L kb p s sb jb vn : Nat) (x : DV) (iv : Value) (torn : Int) (R : List (Ent L)) (w : World) (e : Ending) (w' : World) : Prop := e = .returned (.bool true) ∧ ∃ y' x' hv' hs' next', Held (deskG L kb p s sb jb x' y' iv (-1) torn hv' hs' next' R) w' ∧ DOk p x' y' hv' hs' next' ∧ XOk x' next' ∧ x'.n = x.n ∧ x'.writes ≤ x.writes + kS (min vn 8192) ∧ Below L w w'
section
variable {L kb p s sb jb : Nat} {xi x : DV} {y : JV} {iv : Value} {left torn : Int} {hv : Value} {hs : List (Value × List UInt8)} {next : Nat} {R : List (Ent L)} {w : World} {E : Ent L}
theorem deskH_j (h : Held (E :: deskH L kb p s sb jb xi x y iv left torn hv hs next R) w) : Held (y.es L jb ++ (dmE L p s x :: (E :: boxE L kb (deskC p (.pointer (some ⟨jb, 0, none⟩)) iv true left torn hv next false sb) 64 :: (haveE L hv hs ++ (imE L iv xi :: R))))) w := by
  refine h.perm ?_
  have e := List.Perm.append_right R (List.perm_append_comm (l₁ := E :: boxE L kb (deskC p (.pointer (some ⟨jb, 0, none⟩)) iv true left torn hv next false sb) 64 :: (haveE L hv hs ++ [imE L iv xi])) (l₂ := y.es L jb ++ [dmE L p s x]))
  simpa [deskH, List.append_assoc] using e
theorem deskH_of {y' : JV} {x' : DV} (h : Held (y'.es L jb ++ (dmE L p s x' :: (E :: boxE L kb (deskC p (.pointer (some ⟨jb, 0, none⟩)) iv true left torn hv next false sb) 64 :: (haveE L hv hs ++ (imE L iv xi :: R))))) w) : Held (E :: deskH L kb p s sb jb xi x' y' iv left torn hv hs next R) w := by
  refine h.perm ?_
  have e := List.Perm.append_right R (List.perm_append_comm (l₁ := y'.es L jb ++ [dmE L p s x']) (l₂ := E :: boxE L kb (deskC p (.pointer (some ⟨jb, 0, none⟩)) iv true left torn hv next false sb) 64 :: (haveE L hv hs ++ [imE L iv xi])))
  simpa [deskH, List.append_assoc] using e
theorem deskH_box (h : Held (E :: deskH L kb p s sb jb xi x y iv left torn hv hs next R) w) : Blk w kb (deskC p (.pointer (some ⟨jb, 0, none⟩)) iv true left torn hv next false sb) 64 := Held.boxB h.drop
/-- What the program's Append leaves. -/
def ApMid (L kb p s sb jb g vn cc : Nat) (x : DV) (iv : Value) (torn : Int) (hv : Value) (hs : List (Value × List UInt8)) (next : Nat) (bs : List UInt8) (R : List (Ent L)) (w : World) (Q : JV → DV → Prop) (wy : World) : Prop := ∃ y' x', Held (datE L (.slice (some ⟨g, 0, none⟩) (vn + 2) cc, bs ++ mk2) :: deskH L kb p s sb jb x x' y' iv (-1) torn hv hs next R) wy ∧ Below L w wy ∧ Q y' x'
theorem mid_lift {g vn cc : Nat} {bs : List UInt8} {w1 : World} {code : Int} {Q : JV → DV → Prop} (hb1 : Below L w w1) (hw1 : L ≤ w1.heap.size) (h1 : Held (datE L (.slice (some ⟨g, 0, none⟩) (vn + 2) cc, bs ++ mk2) :: deskH L kb p s sb jb x x y iv (-1) torn hv hs next R) w1)
    (hap : ∀ W, Held (y.es L jb ++ (dmE L p s x :: (datE L (.slice (some ⟨g, 0, none⟩) (vn + 2) cc, bs ++ mk2) :: boxE L kb (deskC p (.pointer (some ⟨jb, 0, none⟩)) iv true (-1) torn hv next false sb) 64 :: (haveE L hv hs ++ (imE L iv x :: R))))) W → Calls Try.prog 16 #[.pointer (some ⟨jb, 0, none⟩), .slice (some ⟨g, 0, none⟩) vn cc] W fun e W' => e = .returned (.int .i64 code) ∧ ∃ y' x', Held (y'.es L jb ++ (dmE L p s x' :: (datE L (.slice (some ⟨g, 0, none⟩) (vn + 2) cc, bs ++ mk2) :: boxE L kb (deskC p (.pointer (some ⟨jb, 0, none⟩)) iv true (-1) torn hv next false sb) 64 :: (haveE L hv hs ++ (imE L iv x :: R))))) W' ∧ Below L W W' ∧ Q y' x') (q : Nat) :
    Calls Try.prog 16 #[.pointer (some ⟨jb, 0, none⟩), .slice (some ⟨g, 0, none⟩) vn cc] (w1.drewN q) fun e W' => e = .returned (.int .i64 code) ∧ ApMid L kb p s sb jb g vn cc x iv torn hv hs next bs R w Q W' := by
  refine (hap (w1.drewN q) ((deskH_j h1).drewN q)).mono ?_
  rintro e W' ⟨rfl, y', x', h2, h3, h4⟩
  exact ⟨rfl, y', x', deskH_of h2, (below_dr hb1 q).trans h3, h4⟩
theorem lent_dat {g n c : Nat} {bs : List UInt8} {es : List (Ent L)} {W : World} (h : Held (datE L (.slice (some ⟨g, 0, none⟩) (n + 2) c, bs ++ mk2) :: es) W) (hl : bs.length = n) : W.ownsRow L 5 1 (.slice (some ⟨g, 0, none⟩) (n + 2) c) (n + 2) ((bs ++ mk2).map B) := by
  have h4 : W.ownsRow L 5 1 (.slice (some ⟨g, 0, none⟩) (n + 2) c) (bs ++ mk2).length ((bs ++ mk2).map B) := h.all _ (List.mem_cons_self ..)
  rwa [show (bs ++ mk2).length = n + 2 by rw [List.length_append, hl]; rfl] at h4
theorem lent_by {g n c : Nat} {bs : List UInt8} {W : World} {es : List (Ent L)} (h : Held (datE L (.slice (some ⟨g, 0, none⟩) (n + 2) c, bs ++ mk2) :: es) W) (hl : bs.length = n) : By W (.slice (some ⟨g, 0, none⟩) n c) bs := own_front (lent_dat h hl) hl
end
theorem appends_big {L kb p s sb jb vn vc : Nat} {x : DV} {y : JV} {iv : Value} {torn : Int} {hv : Value} {hs : List (Value × List UInt8)} {next : Nat} {R : List (Ent L)} {vo : Option Addr} {bs : List UInt8} (w : World) (h : Held (deskG L kb p s sb jb x y iv (-1) torn hv hs next R) w) (hd : DOk p x y hv hs next) (hx : XOk x next) (hall : ∀ W, Below L w W → By W (.slice vo vn vc) bs) (hl : bs.length = vn) (hvn : vn ≤ 140737488351232) (h8 : 8192 < vn) :
    Calls Try.prog 58 #[.pointer (some ⟨kb, 0, none⟩), .slice vo vn vc] w (ApPost L kb p s sb jb vn x iv torn R w) := by
  have hln := lent_any w (hall w (Below.refl _ _)) (by omega)
  rw [hl] at hln
  have HLN : Hid _ := hln
  have HALL : Hid (∀ W, Below L w W → By W (.slice vo vn vc) bs) := hall
  have HH : Hid (Held (deskG L kb p s sb jb x y iv (-1) torn hv hs next R) w ∧ DOk p x y hv hs next ∧ XOk x next ∧ bs.length = vn) := ⟨h, hd, hx, hl⟩
  have hkm := kS_pos vn
  clear h hd hx hall hl hln
  go_enter Try.func58, Try.ntmps58
  go_wp2_with fail
  refine Calls.mono HLN.out ?_
  rintro e w1 ⟨g, cc, rfl, hcc, hown, hb1⟩
  clear HLN
  have hL : L ≤ w.heap.size := desk_lo HH.out.1
  have h1 : Held (datE L (.slice (some ⟨g, 0, none⟩) (vn + 2) cc, bs ++ mk2) :: deskH L kb p s sb jb x x y iv (-1) torn hv hs next R) w1 := Held.fresh (R := deskG L kb p s sb jb x y iv (-1) torn hv hs next R) HH.out.1 hb1 (own_any (ownsRow_mono hown hL) (by rw [HH.out.2.2.2])) (fun j hj => by
    have e : some g = some j := hj
    cases e
    exact (ownsRow_lt hown (g := g) rfl).1)
  have hpp := HH.out.2.1.ep
  have hlen := HH.out.2.1.len
  have hnxx := HH.out.2.1.enx
  have hfin := HH.out.2.1.fin
  have hle := HH.out.2.1.le
  have hn2 := HH.out.2.1.n2
  have hhl := HH.out.2.1.hl
  have hxo := HH.out.2.2.1
  have HAP : Hid (∀ q, Calls Try.prog 16 #[.pointer (some ⟨jb, 0, none⟩), .slice (some ⟨g, 0, none⟩) vn cc] (w1.drewN q) fun e W' => e = .returned (.int .i64 2) ∧ ApMid L kb p s sb jb g vn cc x iv torn hv hs next bs R w (fun y' x' => y' = y ∧ x' = x) W') := mid_lift (hb1.mono hL) (Nat.le_trans hL hb1.size) h1 (fun W hW => by
    subst hpp
    refine (append_long W hW h8 (by omega) hxo.off).mono ?_
    rintro e W' ⟨rfl, k1, k2⟩
    exact ⟨rfl, y, x, k1, k2, rfl, rfl⟩)
  have c1 : w1.cell? ⟨kb, 1, none⟩ = some (.pointer (some ⟨jb, 0, none⟩)) := (deskH_box h1).cell 1
  have hsl : ∀ W, (Instr.sliceAt 38 (.slice (some ⟨g, 0, none⟩) (vn + 2) cc) none (some (.int .i64 (vn : Int))) none).run Try.prog W = .ok (.slice (some ⟨g, 0, none⟩) vn cc) W := fun W => slice38h g 0 (vn + 2) cc vn (by omega) W
  have HCC : Hid (vn + 2 ≤ cc) := hcc
  clear hown hb1 h1 hcc hL hpp hlen hnxx hfin hle hn2 hhl hxo
  go_wp2_with fail
  go_cut [6] from 12 to 20 (fun s6 wy => s6 = .int .i64 2 ∧ ApMid L kb p s sb jb g vn cc x iv torn hv hs next bs R w (fun y' x' => y' = y ∧ x' = x) wy)
  case first =>
    go_region_with (go_at_call 16; refine (by first | exact HAP.out 0 | exact HAP.out 1 : Calls Try.prog 16 _ _ _).mono ?_; rintro e w2 ⟨rfl, hm⟩)
    all_goals
      have HM : Hid _ := hm
      clear hm
      go_wp2_with fail
      go_meet
      case rel => exact ⟨rfl, HM.out⟩
  case rest =>
  obtain ⟨rfl, y', x', hH2, hb2, hQ⟩ := hcut
  clear hsl c1 HAP
  have c3 : wc.cell? ⟨kb, 3, none⟩ = some (.bool true) := (deskH_box hH2).cell 3
  have c8 : wc.cell? ⟨kb, 8, none⟩ = some (.bool false) := (deskH_box hH2).cell 8
  have hv8 : (8192 : Int) < (vn : Int) := by omega
  obtain ⟨rfl, rfl⟩ := hQ
  have HBK : Hid _ := back_any wc (lent_dat hH2 HH.out.2.2.2) HCC.out (HALL.out wc hb2) HH.out.2.2.2 (by omega)
  have HNM : Hid (∀ X : World, Calls Try.prog 12 #[.int .i64 2] X fun e w' => e = .returned (.int .i64 2) ∧ w' = X) := fun X => num_any 2 X
  have HFI : Hid ((∀ W', Chg (fun k => k = g) wc W' → Held (deskG L kb p s sb jb x' y' iv (-1) torn hv hs next R) W' ∧ Below L w W')) := fun W' hc => ⟨Held.dropRow hH2 hc, hb2.trans (hc.below (desk_lo (Held.drop hH2)) (fun j hj => by rw [hj]; exact (ownsRow_lt (lent_dat hH2 HH.out.2.2.2) rfl).1))⟩
  clear hH2 hb2
  go_wp2_with fail
  refine Calls.mono HBK.out ?_
  rintro e w5 ⟨rfl, _, hc5⟩
  have HF5 : Hid _ := HFI.out w5 hc5
  clear HBK hc5 HFI c3 c8
  go_wp2_with fail
  refine Calls.mono (HNM.out _) ?_
  rintro e wo ⟨rfl, hwo⟩
  replace hwo := hwo.symm
  subst hwo
  go_wp2_with fail
  go_ret
  unfold ApPost
  exact ⟨rfl, y', x', hv, hs, next, HF5.out.1, HH.out.2.1, HH.out.2.2.1, rfl, by omega, HF5.out.2⟩
end Go.Proofs.Ytcnokgphioigoaa
