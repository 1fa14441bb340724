import Derived.Test.YtcnokgphioigoaaJB
import Derived.Test.YtcnokgphioigoaaJn43
import Derived.Deep.Cut
import Derived.Deep.CutRange
import Derived.Deep.RegionWith
import Derived.BigQuiet
namespace Go.Proofs.Ytcnokgphioigoaa
open Go.RowKit Go.PlainAid
set_option linter.unusedVariables false
set_option linter.unusedSimpArgs false
set_option maxRecDepth 100000
set_option maxHeartbeats 6400000
/-- A desk with the sectors that are to be written. -/
structure ApLoop (L kb p s sb jb g vn cc : Nat) (x x2 : DV) (y2 : JV) (iv : Value) (torn : Int) (hv : Value) (hs : List (Value × List UInt8)) (next : Nat) (bs : List UInt8) (R : List (Ent L)) (w : World) (num k : Nat) (sv : Value) (ss : List (Value × List UInt8)) (i : Nat) (wr : World) : Prop where
  h : Held (haveE L sv ss ++ (datE L (.slice (some ⟨g, 0, none⟩) (vn + 2) cc, bs ++ mk2) :: deskH L kb p s sb jb (wroteX x num next bs i) x2 y2 iv (-1) torn hv hs next R)) wr
  bl : Below L w wr
section
variable {L kb p s sb jb g vn cc : Nat} {x x2 : DV} {y2 : JV} {iv : Value} {torn : Int} {hv : Value} {hs : List (Value × List UInt8)} {next : Nat} {bs : List UInt8} {R : List (Ent L)} {w : World} {num k : Nat} {sv : Value} {ss : List (Value × List UInt8)} {i : Nat} {wr : World}
theorem ApLoop.box (a : ApLoop L kb p s sb jb g vn cc x x2 y2 iv torn hv hs next bs R w num k sv ss i wr) : Blk wr kb (deskC p (.pointer (some ⟨jb, 0, none⟩)) iv true (-1) torn hv next false sb) 64 := deskH_box (Held.tailR a.h)
theorem ApLoop.sec {so : Option Addr} {sc : Nat} (a : ApLoop L kb p s sb jb g vn cc x x2 y2 iv torn hv hs next bs R w num k (.slice so k sc) ss i wr) (hik : i < k) (hl : ss.length = k) (hm : ss.map Prod.snd = secsL num bs k) : ∃ b9 o9 uo un uc, so = some ⟨b9, o9, none⟩ ∧ wr.cell? ⟨b9, o9 + i, none⟩ = some (.slice uo un uc) ∧ un = 512 ∧ (∀ W, Held (haveE L (.slice so k sc) ss) W → By W (.slice uo un uc) (secJ (markL num i bs.length) (pieceL bs i))) := by
  have ht : Tail wr L 38 (.slice so k sc) ss.length (ss.map Prod.fst) := a.h.all (tailE L 38 (.slice so k sc) ss.length (ss.map Prod.fst)) (by simp [haveE])
  have hd : ss[i]? = some (ss[i]'(by omega)) := List.getElem?_eq_getElem _
  obtain ⟨d, hde⟩ : ∃ d, d = ss[i]'(by omega) := ⟨_, rfl⟩
  rw [← hde] at hd
  have h2 : d.2 = secJ (markL num i bs.length) (pieceL bs i) := by
    have h3 : (ss.map Prod.snd)[i]? = some d.2 := by rw [List.getElem?_map, hd]; rfl
    rw [hm, secsL, List.getElem?_map, List.getElem?_range hik] at h3
    exact (Option.some.inj h3).symm
  obtain ⟨b9, o9, cap, e1, e2⟩ := tail_at ht (i := i) (u := d.1) (by rw [List.getElem?_map, hd]; rfl)
  have hso : so = some ⟨b9, o9, none⟩ := by cases e1; rfl
  subst hso
  have hby : ∀ W, Held (haveE L (.slice (some ⟨b9, o9, none⟩) k sc) ss) W → By W d.1 d.2 := fun W hW => (hW.all (byE L d) (List.mem_cons_of_mem _ (List.mem_map_of_mem (List.mem_of_getElem? hd)))).1
  obtain ⟨uo, un, uc, e5, e6, _⟩ := id (hby wr (Held.subl a.h (List.sublist_append_left _ _)))
  rw [h2] at hby e6
  rw [secJ_len] at e6
  rw [e5] at e2 hby
  exact ⟨b9, o9, uo, un, uc, rfl, e2, e6.symm, hby⟩
theorem info30s : (Try.prog.info? 38).map (·.size) = some 1 := by kernel_rfl
theorem sec_same {so : Option Addr} {sc : Nat} {w' : World} {T : List (Ent L)} (a : ApLoop L kb p s sb jb g vn cc x x2 y2 iv torn hv hs next bs R w num k (.slice so k sc) ss i wr) (h : Held (haveE L (.slice so k sc) ss ++ T) w') {b9 o9 : Nat} {u : Value} (hso : so = some ⟨b9, o9, none⟩) (hu : wr.cell? ⟨b9, o9 + i, none⟩ = some u) (hik : i < k) (hl : ss.length = k) : w'.cell? ⟨b9, o9 + i, none⟩ = some u := by
  subst hso
  have h1 : Tail wr L 38 (.slice (some ⟨b9, o9, none⟩) k sc) ss.length (ss.map Prod.fst) := a.h.all (tailE L 38 (.slice (some ⟨b9, o9, none⟩) k sc) ss.length (ss.map Prod.fst)) (by simp [haveE])
  have h2 : Tail w' L 38 (.slice (some ⟨b9, o9, none⟩) k sc) ss.length (ss.map Prod.fst) := h.all (tailE L 38 (.slice (some ⟨b9, o9, none⟩) k sc) ss.length (ss.map Prod.fst)) (by simp [haveE])
  have hd : (ss.map Prod.fst)[i]? = some ((ss.map Prod.fst)[i]'(by rw [List.length_map]; omega)) := List.getElem?_eq_getElem _
  obtain ⟨_, _, _, e1, e2⟩ := tail_at h1 hd
  obtain ⟨_, _, _, e3, e4⟩ := tail_at h2 hd
  cases e1
  cases e3
  rw [e4, ← e2, hu]
theorem wro_im (ha : x.armed = false) (hn : next + i < x.n) : imE L iv ((wroteX x num next bs i).put (next + i) 512 (secJ (markL num i bs.length) (pieceL bs i))) = imE L iv (wroteX x num next bs (i + 1)) := by
  have h3 := (wroteX_facts x num next bs ha i).2.2.1
  have e : ((wroteX x num next bs i).noted (next + i)).dec = (wroteX x num next bs i).noted (next + i) := by
    unfold DV.dec
    rw [if_neg]
    show ¬ (wroteX x num next bs i).armed = true
    rw [h3]; simp
  have e2 : wroteX x num next bs (i + 1) = (((wroteX x num next bs i).noted (next + i)).dec).put (next + i) 512 (secJ (markL num i bs.length) (pieceL bs i)) := rfl
  rw [e2, e]
  rfl
theorem loop_perm {A D : Ent L} {S H T : List (Ent L)} {I : Ent L} : (S ++ (D :: A :: (H ++ (I :: T)))).Perm (A :: I :: (S ++ (D :: (H ++ T)))) := by
  have e1 : (S ++ (D :: A :: (H ++ (I :: T)))).Perm (A :: (S ++ (D :: (H ++ (I :: T))))) := by
    have := List.perm_middle (a := A) (l₁ := S ++ [D]) (l₂ := H ++ (I :: T))
    simpa [List.append_assoc] using this
  refine e1.trans (List.Perm.cons _ ?_)
  have := List.perm_middle (a := I) (l₁ := S ++ (D :: H)) (l₂ := T)
  simpa [List.append_assoc] using this
theorem ApLoop.write {so uo : Option Addr} {sc un uc : Nat} (a : ApLoop L kb p s sb jb g vn cc x x2 y2 iv torn hv hs next bs R w num k (.slice so k sc) ss i wr) (hun : un = 512) (hby : ∀ W, Held (haveE L (.slice so k sc) ss) W → By W (.slice uo un uc) (secJ (markL num i bs.length) (pieceL bs i))) (hin : next + i < x.n) (hn1 : 1 ≤ x.n) (hn2 : x.n ≤ 1000) (ha : x.armed = false) (q : Nat) :
    Calls Try.prog 66 #[.pointer (some ⟨kb, 0, none⟩), .int .i64 ((next : Int) + (i : Int)), .slice uo un uc] (wr.drewN q) fun e w' => e = .returned (.bool true) ∧ w'.cell? ⟨kb, 4, none⟩ = some (.int .i64 (-2)) ∧ w'.frozen? ⟨kb, 4, none⟩ = false ∧ (w'.cell? ⟨kb, 7, none⟩ = some (.int .i64 (next : Int)) ∧ ∀ b9 o9 u, so = some ⟨b9, o9, none⟩ → wr.cell? ⟨b9, o9 + i, none⟩ = some u → i < k → ss.length = k → w'.cell? ⟨b9, o9 + i, none⟩ = some u) ∧ ApLoop L kb p s sb jb g vn cc x x2 y2 iv torn hv hs next bs R w num k (.slice so k sc) ss (i + 1) (w'.setCell ⟨kb, 4, none⟩ (.int .i64 (-1))) := by
  have hw := wroteX_facts x num next bs ha i
  have h1 := (a.h.drewN q).perm loop_perm
  have h2 := written_any (at' := next + i) (so := uo) (sn := un) (sc := uc) (bs := secJ (markL num i bs.length) (pieceL bs i)) (-1) (wr.drewN q) h1 (fun W _ hW => hby W (Held.subl hW (List.sublist_append_left _ _))) hun (by rw [hw.2.1]; exact hin) (by rw [hw.2.1]; exact hn1) (by rw [hw.2.1]; exact hn2) rfl
  rw [show ((next + i : Nat) : Int) = (next : Int) + (i : Int) by omega, wro_im ha hin] at h2
  refine h2.mono ?_
  rintro e w' ⟨rfl, k1, k2⟩
  refine ⟨rfl, k1.boxB.cell 4, k1.boxB.frozen 4, ⟨k1.boxB.cell 7, fun b9 o9 u hso hu hik hl => sec_same a (k1.perm loop_perm.symm) hso hu hik hl⟩, (k1.boxSet 4 (.int .i64 (-1))).perm loop_perm.symm, ((a.bl.trans (below_dr (Below.refl _ _) q)).trans k2).trans ((setCell_chg _ _ _ _).below (k1.lowL (k := kb) rfl) (fun j e => by rw [e]; exact (k1.all _ (List.mem_cons_self ..)).2))⟩
theorem tail_perm {S H T : List (Ent L)} {D A : Ent L} : (S ++ (D :: A :: (H ++ T))).Perm (H ++ (S ++ (D :: A :: T))) := by
  have := List.Perm.append_right T (List.perm_append_comm (l₁ := S ++ [D, A]) (l₂ := H))
  simpa [List.append_assoc] using this
theorem box_perm {S T : List (Ent L)} {D A : Ent L} : (S ++ (D :: A :: T)).Perm (A :: (S ++ (D :: T))) := by
  have := List.perm_middle (a := A) (l₁ := S ++ [D]) (l₂ := T)
  simpa [List.append_assoc] using this
theorem fin_perm {S T : List (Ent L)} {D A : Ent L} : (A :: (S ++ (D :: T))).Perm (S ++ (D :: A :: T)) := box_perm.symm
end
theorem appends_ok {L kb p s sb jb vn vc : Nat} {x : DV} {y : JV} {iv : Value} {torn : Int} {hv : Value} {hs : List (Value × List UInt8)} {next : Nat} {R : List (Ent L)} {vo : Option Addr} {bs : List UInt8} (w : World) (h : Held (deskG L kb p s sb jb x y iv (-1) torn hv hs next R) w) (hd : DOk p x y hv hs next) (hx : XOk x next) (hall : ∀ W, Below L w W → By W (.slice vo vn vc) bs) (hl : bs.length = vn) (hvn : vn ≤ 140737488351232) (h8 : vn ≤ 8192) (hrm : next + kS vn ≤ x.n) :
    Calls Try.prog 58 #[.pointer (some ⟨kb, 0, none⟩), .slice vo vn vc] w (ApPost L kb p s sb jb vn x iv torn R w) := by
  have hln := lent_any w (hall w (Below.refl _ _)) (by omega)
  rw [hl] at hln
  have HLN : Hid _ := hln
  have HALL : Hid (∀ W, Below L w W → By W (.slice vo vn vc) bs) := hall
  have HH : Hid (Held (deskG L kb p s sb jb x y iv (-1) torn hv hs next R) w ∧ DOk p x y hv hs next ∧ XOk x next ∧ bs.length = vn) := ⟨h, hd, hx, hl⟩
  have hkm := kS_pos vn
  clear h hd hx hall hl hln
  go_enter Try.func58, Try.ntmps58
  go_wp2_with fail
  refine Calls.mono HLN.out ?_
  rintro e w1 ⟨g, cc, rfl, hcc, hown, hb1⟩
  clear HLN
  have hL : L ≤ w.heap.size := desk_lo HH.out.1
  have h1 : Held (datE L (.slice (some ⟨g, 0, none⟩) (vn + 2) cc, bs ++ mk2) :: deskH L kb p s sb jb x x y iv (-1) torn hv hs next R) w1 := Held.fresh (R := deskG L kb p s sb jb x y iv (-1) torn hv hs next R) HH.out.1 hb1 (own_any (ownsRow_mono hown hL) (by rw [HH.out.2.2.2])) (fun j hj => by
    have e : some g = some j := hj
    cases e
    exact (ownsRow_lt hown (g := g) rfl).1)
  have hpp := HH.out.2.1.ep
  have hlen := HH.out.2.1.len
  have hnxx := HH.out.2.1.enx
  have hfin := HH.out.2.1.fin
  have hle := HH.out.2.1.le
  have hn2 := HH.out.2.1.n2
  have hhl := HH.out.2.1.hl
  have hxo := HH.out.2.2.1
  have HAP : Hid (∀ q, Calls Try.prog 16 #[.pointer (some ⟨jb, 0, none⟩), .slice (some ⟨g, 0, none⟩) vn cc] (w1.drewN q) fun e W' => e = .returned (.int .i64 0) ∧ ApMid L kb p s sb jb g vn cc x iv torn hv hs next bs R w (fun y' x' => ∃ rv' v', y' = y.added rv' v' bs ∧ x' = wroteX x (hs.length + 1) next bs (kS vn)) W') := mid_lift (hb1.mono hL) (Nat.le_trans hL hb1.size) h1 (fun W hW => by
    subst hpp
    refine (append_ok (bs := bs) W hW (fun W2 _ hR => lent_by hR HH.out.2.2.2) (by omega) h8 hxo.off hxo.armed (by rw [hxo.whole]; omega) (by have := hxo.writes; omega) (by omega) (by rw [hnxx, hfin]; exact hrm) hfin (by omega)).mono ?_
    rintro e W' ⟨rfl, rv', v', k1, k2⟩
    rw [hlen, hnxx] at k1
    exact ⟨rfl, _, _, k1, k2, rv', v', rfl, rfl⟩)
  have c1 : w1.cell? ⟨kb, 1, none⟩ = some (.pointer (some ⟨jb, 0, none⟩)) := (deskH_box h1).cell 1
  have hsl : ∀ W, (Instr.sliceAt 38 (.slice (some ⟨g, 0, none⟩) (vn + 2) cc) none (some (.int .i64 (vn : Int))) none).run Try.prog W = .ok (.slice (some ⟨g, 0, none⟩) vn cc) W := fun W => slice38h g 0 (vn + 2) cc vn (by omega) W
  have HCC : Hid (vn + 2 ≤ cc) := hcc
  clear hown hb1 h1 hcc hL hpp hlen hnxx hfin hle hn2 hhl hxo
  go_wp2_with fail
  go_cut [6] from 12 to 20 (fun s6 wy => s6 = .int .i64 0 ∧ ApMid L kb p s sb jb g vn cc x iv torn hv hs next bs R w (fun y' x' => ∃ rv' v', y' = y.added rv' v' bs ∧ x' = wroteX x (hs.length + 1) next bs (kS vn)) wy)
  case first =>
    go_region_with (go_at_call 16; refine (by first | exact HAP.out 0 | exact HAP.out 1 : Calls Try.prog 16 _ _ _).mono ?_; rintro e w2 ⟨rfl, hm⟩)
    all_goals
      have HM : Hid _ := hm
      clear hm
      go_wp2_with fail
      go_meet
      case rel => exact ⟨rfl, HM.out⟩
  case rest =>
  obtain ⟨rfl, y', x', hH2, hb2, hQ⟩ := hcut
  clear hsl c1 HAP
  have c3 : wc.cell? ⟨kb, 3, none⟩ = some (.bool true) := (deskH_box hH2).cell 3
  have c8 : wc.cell? ⟨kb, 8, none⟩ = some (.bool false) := (deskH_box hH2).cell 8
  have hv8 : ¬ ((8192 : Int) < (vn : Int)) := by omega
  obtain ⟨rv', v', rfl, rfl⟩ := hQ
  have hle := HH.out.2.1.le
  have hn1 := HH.out.2.1.n1
  have hn2 := HH.out.2.1.n2
  have hhl := HH.out.2.1.hl
  obtain ⟨ho, hc, hve⟩ := HH.out.2.1.ehv
  have HKC : Hid (∀ q, Calls Try.prog 59 #[.int .i64 (vn : Int)] (wc.drewN q) fun e w' => e = .returned (.int .i64 (kS vn : Int)) ∧ w' = wc.drewN q) := fun q => count_any vn _ (by omega)
  obtain ⟨ig, ic, hie, _, _⟩ := im_lit (show wc.ownsRow L 5 1 iv (x.n * 512) ((imgL x).map B) from hH2.all (imE L iv x) (by simp [deskH])) hn1
  have c2 : wc.cell? ⟨kb, 2, none⟩ = some (.slice (some ⟨ig, 0, none⟩) (x.n * 512) ic) := by rw [← hie]; exact (deskH_box hH2).cell 2
  have c7 : wc.cell? ⟨kb, 7, none⟩ = some (.int .i64 (next : Int)) := (deskH_box hH2).cell 7
  have c6 : wc.cell? ⟨kb, 6, none⟩ = some (.slice ho hs.length hc) := by rw [← hve]; exact (deskH_box hH2).cell 6
  have hq : Int.tdiv ((x.n * 512 : Nat) : Int) 512 = (x.n : Int) := by rw [Int.tdiv_eq_ediv_of_nonneg (by omega)]; omega
  have hk2 := kS_le vn h8
  obtain ⟨k, hk⟩ : ∃ k, k = kS vn := ⟨_, rfl⟩
  have HKK : Hid (k = kS vn) := hk
  rw [← hk] at HKC hrm hk2 hH2
  obtain ⟨N, hN⟩ : ∃ N, N = x.n := ⟨_, rfl⟩
  have HNX : Hid (N = x.n) := hN
  rw [← hN] at c2 hq hrm hle hn2
  have hgt : ¬ ((N : Int) - (next : Int) < (k : Int)) := by omega
  obtain ⟨hln, hhln⟩ : ∃ l, l = hs.length := ⟨_, rfl⟩
  have HLN : Hid (hln = hs.length) := hhln
  rw [← hhln] at c6 hhl
  obtain ⟨y2, hy2⟩ : ∃ y2, y2 = y.added rv' v' bs := ⟨_, rfl⟩
  obtain ⟨x2, hx2⟩ : ∃ x2, x2 = wroteX x (hs.length + 1) next bs k := ⟨_, rfl⟩
  have HYX : Hid (y2 = y.added rv' v' bs ∧ x2 = wroteX x (hs.length + 1) next bs k) := ⟨hy2, hx2⟩
  rw [← hy2, ← hx2] at hH2
  have HH2 : Hid (Held (datE L (.slice (some ⟨g, 0, none⟩) (vn + 2) cc, bs ++ mk2) :: deskH L kb p s sb jb x x2 y2 iv (-1) torn hv hs next R) wc ∧ Below L w wc) := ⟨hH2, hb2⟩
  have HVE : Hid (hv = .slice ho hs.length hc) := hve
  have HEL : Hid (L ≤ wc.heap.size) := Nat.le_trans (desk_lo HH.out.1) hb2.size
  clear hH2 hb2 hie hk hN hn1 hkm hhln hy2 hx2 hve
  go_wp2_with fail
  go_quiet (first | (go_at_call 59; refine Calls.quiet_of_same (HKC.out _)))
  have hH3 : Held (datE L (.slice (some ⟨g, 0, none⟩) (vn + 2) cc, bs ++ mk2) :: deskH L kb p s sb jb x x2 y2 iv (-1) torn hv hs next R) (wc.drewN nq) := HH2.out.1.drewN nq
  have hb3 : Below L w (wc.drewN nq) := below_dr HH2.out.2 nq
  have hL3 : L ≤ (wc.drewN nq).heap.size := HEL.out
  have d6 : (wc.drewN nq).cell? ⟨kb, 6, none⟩ = some (.slice ho hln hc) := c6
  clear HKC HH2 c2 c7 c3 c8 c6 hq hgt HEL
  generalize wc.drewN nq = X at hH3 hb3 hL3 d6 ⊢
  have HSC : Hid _ := sectors_ref (L := L) (R := datE L (.slice (some ⟨g, 0, none⟩) (vn + 2) cc, bs ++ mk2) :: deskH L kb p s sb jb x x2 y2 iv (-1) torn hv hs next R) (num := hln + 1) (vo := vo) (vn := vn) (vc := vc) (bs := bs) X hH3 hL3 (fun W hW _ => HALL.out W (hb3.trans hW)) HH.out.2.2.2 h8 (by omega)
  have HB3 : Hid (Below L w X) := hb3
  clear hH3 hb3 hL3
  go_wp2_with fail
  refine Calls.mono HSC.out ?_
  rintro e w4 ⟨v4, rfl, ho4, hc4, ss, rfl, hsl4, hsm4, hH4, hb4⟩
  rw [← HKK.out] at hsl4 hsm4 hH4
  have HS4 : Hid (ss.length = k ∧ ss.map Prod.snd = secsL (hln + 1) bs k ∧ (Below L w w4)) := ⟨hsl4, hsm4, HB3.out.trans hb4⟩
  have HX0 : Hid (ApLoop L kb p s sb jb g vn cc x x2 y2 iv torn hv hs next bs R w (hln + 1) k (.slice ho4 k hc4) ss 0 w4) := by
    refine ⟨?_, HB3.out.trans hb4⟩
    exact hH4
  rw [show kS vn = k from HKK.out.symm]
  clear HSC hsl4 hsm4 hH4 hb4 d6
  go_wp2_with fail
  go_loopw [7, 9] (fun s7 s9 wr => ∃ i : Nat, i ≤ k ∧ s7 = .int .i64 0 ∧ s9 = .int .i64 (i : Int) ∧ ApLoop L kb p s sb jb g vn cc x x2 y2 iv torn hv hs next bs R w (hln + 1) k (.slice ho4 k hc4) ss i wr) (fun _ s9 _ => k - (intOf s9).toNat)
  case atStart => exact ⟨0, by omega, rfl, rfl, HX0.out⟩
  case round =>
    clear HX0
    obtain ⟨i, hi, rfl, rfl, hA⟩ := hrel
    have HA : Hid _ := hA
    clear hA
    by_cases hik : i < k
    · have hiki : (i : Int) < (k : Int) := by omega
      obtain ⟨b9, o9, uo, un, uc, hoe, hcell, hun, hbyS⟩ := HA.out.sec hik HS4.out.1 HS4.out.2.1
      subst hoe
      have e7 : wr.cell? ⟨kb, 7, none⟩ = some (.int .i64 (next : Int)) := HA.out.box.cell 7
      have HWR : Hid (∀ (W : World) (z : Int), (∃ q, W = wr.drewN q) → z = (next : Int) + (i : Int) → Calls Try.prog 66 #[.pointer (some ⟨kb, 0, none⟩), .int .i64 z, .slice uo un uc] W fun e w' => e = .returned (.bool true) ∧ w'.cell? ⟨kb, 4, none⟩ = some (.int .i64 (-2)) ∧ w'.frozen? ⟨kb, 4, none⟩ = false ∧ (w'.cell? ⟨kb, 7, none⟩ = some (.int .i64 (next : Int)) ∧ w'.cell? ⟨b9, o9 + i, none⟩ = some (.slice uo un uc)) ∧ ApLoop L kb p s sb jb g vn cc x x2 y2 iv torn hv hs next bs R w (hln + 1) k (.slice (some ⟨b9, o9, none⟩) k hc4) ss (i + 1) (w'.setCell ⟨kb, 4, none⟩ (.int .i64 (-1)))) := fun W z hW hz => by
        obtain ⟨q, rfl⟩ := hW
        subst hz
        have h9 := HA.out.write hun hbyS (by rw [← HNX.out]; omega) HH.out.2.1.n1 (by rw [← HNX.out]; omega) HH.out.2.2.1.armed q
        exact h9.mono (fun e w' ⟨h1, h2, h3, ⟨h4, h5⟩, h6⟩ => ⟨h1, h2, h3, ⟨h4, h5 _ _ _ rfl hcell hik HS4.out.1⟩, h6⟩)
      clear hbyS
      go_wp2_with fail
      go_cut [51] from 29 to 62 (fun s51 wy => s51 = .bool false ∧ wy.cell? ⟨kb, 4, none⟩ = some (.int .i64 (-2)) ∧ wy.frozen? ⟨kb, 4, none⟩ = false ∧ ApLoop L kb p s sb jb g vn cc x x2 y2 iv torn hv hs next bs R w (hln + 1) k (.slice (some ⟨b9, o9, none⟩) k hc4) ss (i + 1) (wy.setCell ⟨kb, 4, none⟩ (.int .i64 (-1))))
      case first =>
        rename_i K hK
        try rw [show ∀ a : Act, a.put none undef = a from fun _ => rfl]
        refine wp_region_mix (fun wz : World => wz.cell? ⟨kb, 7, none⟩ = some (Value.int .i64 (next : Int)) ∧ wz.cell? ⟨b9, o9 + i, none⟩ = some (Value.slice uo un uc)) (fun i => i == 11 || i == 99) 99 (by kernel_rfl) rfl (by kernel_rfl) (by kernel_rfl) (by kernel_rfl) ?_
        refine withFrP (N := 129) rfl ?_
        intro f0 F0 hff
        have ee0 : f0 0 = Value.pointer (some ⟨kb, 0, none⟩) := hff 0
        have ee8 : f0 8 = Value.slice (some ⟨b9, o9, none⟩) k hc4 := hff 8
        have ee9 : f0 9 = Value.int .i64 (i : Int) := hff 9
        clear hff
        have HCC : (fun wz : World => wz.cell? ⟨kb, 7, none⟩ = some (Value.int .i64 (next : Int)) ∧ wz.cell? ⟨b9, o9 + i, none⟩ = some (Value.slice uo un uc)) (({ wr with drawn := wr.drawn + 1 } : World)) := ⟨e7, hcell⟩
        refine lyp F0 rfl HCC rfl (by omega) (wanted_none rfl) (v := Value.pointer (some ⟨kb, 0, none⟩)) (fun wr hwr => by simp only [execOp, (F0.eval 0 (by omega)).trans (show _ = Value.pointer (some ⟨kb, 0, none⟩) from by simp [upd, ee0, ee8, ee9])]; first | rfl | simp [go_sem]) fun F1 => ?_
        refine lyp F1 rfl HCC rfl (by omega) (wanted_none rfl) (v := Value.pointer (some ⟨kb, 0, none⟩)) (fun wr hwr => by simp only [execOp, (F1.eval 0 (by omega)).trans (show _ = Value.pointer (some ⟨kb, 0, none⟩) from by simp [upd, ee0, ee8, ee9])]; first | rfl | simp [go_sem]) fun F2 => ?_
        refine lyp F2 rfl HCC rfl (by omega) (wanted_none rfl) (v := Value.pointer (some ⟨kb, 0, none⟩)) (fun wr hwr => by simp only [execOp, (F2.eval 40 (by omega)).trans (show _ = Value.pointer (some ⟨kb, 0, none⟩) from by simp [upd, ee0, ee8, ee9])]; simp [go_sem]) fun F3 => ?_
        refine lyp F3 rfl HCC rfl (by omega) (wanted_none rfl) (v := Value.pointer (some ⟨kb, 7, none⟩)) (fun wr hwr => by simp only [execOp, (F3.eval 41 (by omega)).trans (show _ = Value.pointer (some ⟨kb, 0, none⟩) from by simp [upd, ee0, ee8, ee9])]; simp [go_sem]) fun F4 => ?_
        refine lyp F4 rfl HCC rfl (by omega) (wanted_none rfl) (v := Value.int .i64 (next : Int)) (fun wr hwr => by simp only [execOp, (F4.eval 42 (by omega)).trans (show _ = Value.pointer (some ⟨kb, 7, none⟩) from by simp [upd, ee0, ee8, ee9])]; simp [go_sem, hwr.1]) fun F5 => ?_
        refine lyp F5 rfl HCC rfl (by omega) (wanted_none rfl) (v := Value.int .i64 (i : Int)) (fun wr hwr => by simp only [execOp, (F5.eval 9 (by omega)).trans (show _ = Value.int .i64 (i : Int) from by simp [upd, ee0, ee8, ee9])]; first | rfl | simp [go_sem]) fun F6 => ?_
        refine lyp F6 rfl HCC rfl (by omega) (wanted_none rfl) (v := Value.int .i64 ((next : Int) + (i : Int))) (fun wr hwr => by simp only [execOp, (F6.eval 43 (by omega)).trans (show _ = Value.int .i64 (next : Int) from by simp [upd, ee0, ee8, ee9]), (F6.eval 44 (by omega)).trans (show _ = Value.int .i64 (i : Int) from by simp [upd, ee0, ee8, ee9])]; simp [go_sem, Act.eval, show IntKind.i64.wrap ((next : Int) + (i : Int)) = (next : Int) + (i : Int) from by rw [IntKind.wrap_i64]; omega]) fun F7 => ?_
        refine lyp F7 rfl HCC rfl (by omega) (wanted_none rfl) (v := Value.slice (some ⟨b9, o9, none⟩) k hc4) (fun wr hwr => by simp only [execOp, (F7.eval 8 (by omega)).trans (show _ = Value.slice (some ⟨b9, o9, none⟩) k hc4 from by simp [upd, ee0, ee8, ee9])]; first | rfl | simp [go_sem]) fun F8 => ?_
        refine lyp F8 rfl HCC rfl (by omega) (wanted_none rfl) (v := Value.int .i64 (i : Int)) (fun wr hwr => by simp only [execOp, (F8.eval 9 (by omega)).trans (show _ = Value.int .i64 (i : Int) from by simp [upd, ee0, ee8, ee9])]; first | rfl | simp [go_sem]) fun F9 => ?_
        refine lyp F9 rfl HCC rfl (by omega) (wanted_none rfl) (v := Value.pointer (some ⟨b9, o9 + i, none⟩)) (fun wr hwr => by simp only [execOp, (F9.eval 46 (by omega)).trans (show _ = Value.slice (some ⟨b9, o9, none⟩) k hc4 from by simp [upd, ee0, ee8, ee9]), (F9.eval 47 (by omega)).trans (show _ = Value.int .i64 (i : Int) from by simp [upd, ee0, ee8, ee9])]; simp only [Sem.run_bind, Sem.run_pure, Result.andThen_ok, idx_run 30 38 1 Try.underlying30 info30s wr b9 o9 k hc4 i hik, Nat.zero_add, Nat.mul_one]; try rfl) fun F10 => ?_
        refine lyp F10 rfl HCC rfl (by omega) (wanted_none rfl) (v := Value.slice uo un uc) (fun wr hwr => by simp only [execOp, (F10.eval 48 (by omega)).trans (show _ = Value.pointer (some ⟨b9, o9 + i, none⟩) from by simp [upd, ee0, ee8, ee9])]; simp [go_sem, hwr.2]) fun F11 => ?_
        refine lcp F11 rfl HCC rfl (by omega) (wanted_none rfl) (g := 66) (args := #[Value.pointer (some ⟨kb, 0, none⟩), Value.int .i64 ((next : Int) + (i : Int)), Value.slice uo un uc]) (by simp only [execOp, resolve, invoke, List.map_toArray, List.map_cons, List.map_nil, (F11.eval 39 (by omega)).trans (show _ = Value.pointer (some ⟨kb, 0, none⟩) from by simp [upd, ee0, ee8, ee9]), (F11.eval 45 (by omega)).trans (show _ = Value.int .i64 ((next : Int) + (i : Int)) from by simp [upd, ee0, ee8, ee9]), (F11.eval 49 (by omega)).trans (show _ = Value.slice uo un uc from by simp [upd, ee0, ee8, ee9])]; simp [go_sem, Act.eval]) (HWR.out _ _ ⟨1, rfl⟩ rfl) ?_
        rintro e5 w5 ⟨rfl, k1, k2, ⟨k3, k4⟩, k5⟩
        refine ⟨_, rfl, fun F12 => ?_⟩
        have HC5 : (fun wz : World => wz.cell? ⟨kb, 7, none⟩ = some (Value.int .i64 (next : Int)) ∧ wz.cell? ⟨b9, o9 + i, none⟩ = some (Value.slice uo un uc)) w5 := ⟨k3, k4⟩
        refine lyp F12 rfl HC5 rfl (by omega) (wanted_none rfl) (v := Value.bool false) (fun wr hwr => by simp only [execOp, (F12.eval 50 (by omega)).trans (show _ = Value.bool true from by simp [upd, ee0, ee8, ee9])]; simp [go_sem, Act.eval]) fun F13 => ?_
        refine ⟨fun _ => HC5, ?_⟩
        refine hK _ _ ?_
        clear F0 F1 F2 F3 F4 F5 F6 F7 F8 F9 F10 F11 F12 F13 ee0 ee8 ee9 HCC HC5
        simp only [Act.put, List.setIfInBounds_toArray, List.set_cons_succ, List.set_cons_zero]
        have HM : Hid _ := And.intro k1 (And.intro k2 k5)
        clear k1 k2 k3 k4 k5
        go_wp2_with fail
        go_meet
        case rel => exact ⟨rfl, HM.out⟩
      case rest =>
        obtain ⟨rfl, c4, f4, hA2⟩ := hcut
        have HA2 : Hid _ := hA2
        clear hA2 HWR hcell e7
        go_wp2_with fail
        go_roundw
        case rel => exact ⟨i + 1, by omega, rfl, by go_num, HA2.out⟩
        case measure => simp [intOf]; omega
    · have hiki : ¬ ((i : Int) < (k : Int)) := by omega
      obtain rfl : i = k := by omega
      have hA := HA.out
      have hb1 : Below L w (wr.drewN 1) := below_dr hA.bl 1
      have hLw : L ≤ wr.heap.size := Nat.le_trans (desk_lo HH.out.1) hA.bl.size
      obtain ⟨_, _, _, ebv, _, hbn, hbc⟩ := HALL.out (wr.drewN 1) hb1
      cases ebv
      obtain ⟨v1, w1, hr1, ho1, hg1⟩ := app_rows (w := wr.drewN 1) 38 5 (.int .u8 0) 1 1 Try.underlying38 info5' rfl (by decide) (by decide) (World.ownsRow_nil (wr.drewN 1) (wr.drewN 1).heap.size 5 1) (ao := vo) (m := vn) (cap := vc) (ys := bs.map B) (by simp [HH.out.2.2.2]) hbn hbc (oneB bs) (by omega) (Nat.le_refl _)
      rw [Nat.zero_add, List.nil_append] at ho1
      have hbw1 : Below (wr.drewN 1).heap.size (wr.drewN 1) w1 := hg1.below (fun q hq => by cases hq) (Nat.le_refl _)
      obtain ⟨a1, c1, hv1, _⟩ := own_slice ho1
      subst hv1
      have hby1 : By w1 (.slice a1 vn c1) bs := by
        have := own_by (v := .slice a1 vn c1) (s := bs) (w := w1) (L := (wr.drewN 1).heap.size) (by rw [HH.out.2.2.2]; exact ho1)
        exact this
      have hP := (hA.h.drewN 1).perm (tail_perm (S := haveE L (.slice ho4 i hc4) ss) (H := haveE L hv hs))
      rw [HVE.out] at hP
      obtain ⟨v3, w3, hr3, ⟨a3, c3, hv3⟩, hH3, hbw3⟩ := have_push hP rfl hLw (by rw [← HLN.out]; omega) hbw1 (u := .slice a1 vn c1) (bs := bs) rfl hby1 (fun q hq => ownsRow_lt ho1 hq)
      subst hv3
      rw [← HLN.out] at hr3 hH3
      have hH4 := hH3.perm (tail_perm (S := haveE L (.slice ho4 i hc4) ss) (H := haveE L (.slice a3 (hln + 1) c3) (hs ++ [(.slice a1 vn c1, bs)]))).symm
      have hH5 := hH4.perm box_perm
      try rw [← HLN.out] at hH5
      have HR1 : Hid (∀ ty, (Builtin.append_ #[38, 38] ty #[.slice none 0 0, .slice vo vn vc]).run Try.prog ({ wr with drawn := wr.drawn + 1 } : World) = .ok (.slice a1 vn c1) w1) := hr1
      have HR3 : Hid (∀ ty, (Builtin.append_ #[30, 30] ty #[.slice ho hln hc, .slice (some ⟨w1.heap.size, 0, none⟩) 1 1]).run Try.prog (w1.alloc (.cells #[.slice a1 vn c1] 38)) = .ok (.slice a3 (hln + 1) c3) w3) := hr3
      have d6 : wr.cell? ⟨kb, 6, none⟩ = some (.slice ho hln hc) := by rw [HLN.out, ← HVE.out]; exact hA.box.cell 6
      have hkb : kb < wr.heap.size := hA.box.lt
      have d61 : w1.cell? ⟨kb, 6, none⟩ = some (.slice ho hln hc) := (hbw1.cell (p := ⟨kb, 6, none⟩) hkb).trans d6
      have hbA : Below w1.heap.size w1 (w1.alloc (.cells #[Value.slice a1 vn c1] 38)) := (Below.refl _ _).alloc (Nat.le_refl _) _
      have d62 : (w1.alloc (.cells #[Value.slice a1 vn c1] 38)).cell? ⟨kb, 6, none⟩ = some (.slice ho hln hc) := (hbA.cell (p := ⟨kb, 6, none⟩) (Nat.lt_of_lt_of_le hkb hbw1.size)).trans d61
      have d63 : w3.cell? ⟨kb, 6, none⟩ = some (.slice ho hln hc) := hH5.boxB.cell 6
      have f63 : w3.frozen? ⟨kb, 6, none⟩ = false := hH5.boxB.frozen 6
      have hH6 := hH5.boxSet 6 (.slice a3 (hln + 1) c3)
      have HW3 : Hid (Below L w (w3.setCell ⟨kb, 6, none⟩ (.slice a3 (hln + 1) c3))) := (hb1.trans hbw3).trans ((setCell_chg _ _ _ _).below (hH5.lowL (k := kb) rfl) (fun j e => by rw [e]; exact (hH5.all _ (List.mem_cons_self ..)).2))
      have HH6 : Hid _ := hH6
      clear hA hb1 hLw hbn hbc hr1 ho1 hg1 hbw1 hby1 hP hr3 hH3 hbw3 hH4 hH5 hH6 hkb hbA
      go_wp2_with fail
      rename_i K hK
      try rw [show ∀ a : Act, a.put none undef = a from fun _ => rfl]
      refine wp_region_mix (fun wz : World => wz.cell? ⟨kb, 6, none⟩ = some (Value.slice ho hln hc)) (fun i => i == 6 || i == 7 || i == 8 || i == 11) 11 (by kernel_rfl) rfl (by kernel_rfl) (by kernel_rfl) (by kernel_rfl) ?_
      refine withFrP (N := 129) rfl ?_
      intro f0 F0 hff
      have ee0 : f0 0 = Value.pointer (some ⟨kb, 0, none⟩) := hff 0
      have ee1 : f0 1 = Value.slice vo vn vc := hff 1
      clear hff
      have HCC : (fun wz : World => wz.cell? ⟨kb, 6, none⟩ = some (Value.slice ho hln hc)) (({ wr with drawn := wr.drawn + 1 } : World)) := d6
      refine lyp F0 rfl HCC rfl (by omega) (wanted_none rfl) (v := Value.pointer (some ⟨kb, 0, none⟩)) (fun wr hwr => by simp only [execOp, (F0.eval 0 (by omega)).trans (show _ = Value.pointer (some ⟨kb, 0, none⟩) from by simp [upd, ee0, ee1])]; first | rfl | simp [go_sem]) fun F1 => ?_
      refine lyp F1 rfl HCC rfl (by omega) (wanted_none rfl) (v := Value.pointer (some ⟨kb, 0, none⟩)) (fun wr hwr => by simp only [execOp, (F1.eval 0 (by omega)).trans (show _ = Value.pointer (some ⟨kb, 0, none⟩) from by simp [upd, ee0, ee1])]; first | rfl | simp [go_sem]) fun F2 => ?_
      refine lyp F2 rfl HCC rfl (by omega) (wanted_none rfl) (v := Value.pointer (some ⟨kb, 0, none⟩)) (fun wr hwr => by simp only [execOp, (F2.eval 66 (by omega)).trans (show _ = Value.pointer (some ⟨kb, 0, none⟩) from by simp [upd, ee0, ee1])]; simp [go_sem]) fun F3 => ?_
      refine lyp F3 rfl HCC rfl (by omega) (wanted_none rfl) (v := Value.pointer (some ⟨kb, 6, none⟩)) (fun wr hwr => by simp only [execOp, (F3.eval 67 (by omega)).trans (show _ = Value.pointer (some ⟨kb, 0, none⟩) from by simp [upd, ee0, ee1])]; simp [go_sem]) fun F4 => ?_
      refine lyp F4 rfl HCC rfl (by omega) (wanted_none rfl) (v := Value.slice ho hln hc) (fun wr hwr => by simp only [execOp, (F4.eval 68 (by omega)).trans (show _ = Value.pointer (some ⟨kb, 6, none⟩) from by simp [upd, ee0, ee1])]; simp [go_sem, hwr]) fun F5 => ?_
      refine lyp F5 rfl HCC rfl (by omega) (wanted_none rfl) (v := Value.slice vo vn vc) (fun wr hwr => by simp only [execOp, (F5.eval 1 (by omega)).trans (show _ = Value.slice vo vn vc from by simp [upd, ee0, ee1])]; first | rfl | simp [go_sem]) fun F6 => ?_
      refine lep F6 rfl HCC rfl (by omega) (wanted_none rfl) (v := Value.slice a1 vn c1) (w1 := w1) (by simp only [execOp, resolve, invoke, builtin, List.map_toArray, List.map_cons, List.map_nil, (F6.eval 70 (by omega)).trans (show _ = Value.slice vo vn vc from by simp [upd, ee0, ee1])]; simp only [Act.eval, Sem.run_bind, Sem.run_pure, Result.andThen_ok, show _ = _ from HR1.out _]; try rfl) fun F7 => ?_
      have HC1 : (fun wz : World => wz.cell? ⟨kb, 6, none⟩ = some (Value.slice ho hln hc)) w1 := d61
      refine lep F7 rfl HC1 rfl (by omega) (wanted_none rfl) (v := Value.slice (some ⟨w1.heap.size, 0, none⟩) 1 1) (w1 := w1.alloc (.cells #[Value.slice a1 vn c1] 38)) (by simp only [execOp, List.map_toArray, List.map_cons, List.map_nil, (F7.eval 71 (by omega)).trans (show _ = Value.slice a1 vn c1 from by simp [upd, ee0, ee1])]; simp [go_sem]) fun F8 => ?_
      have HC2 : (fun wz : World => wz.cell? ⟨kb, 6, none⟩ = some (Value.slice ho hln hc)) (w1.alloc (.cells #[Value.slice a1 vn c1] 38)) := d62
      refine lep F8 rfl HC2 rfl (by omega) (wanted_none rfl) (v := Value.slice a3 (hln + 1) c3) (w1 := w3) (by simp only [execOp, resolve, invoke, builtin, List.map_toArray, List.map_cons, List.map_nil, (F8.eval 69 (by omega)).trans (show _ = Value.slice ho hln hc from by simp [upd, ee0, ee1]), (F8.eval 72 (by omega)).trans (show _ = Value.slice (some ⟨w1.heap.size, 0, none⟩) 1 1 from by simp [upd, ee0, ee1])]; simp only [Sem.run_bind, Sem.run_pure, Result.andThen_ok, show _ = _ from HR3.out _]; try rfl) fun F9 => ?_
      have HC3 : (fun wz : World => wz.cell? ⟨kb, 6, none⟩ = some (Value.slice ho hln hc)) w3 := d63
      refine lyp F9 rfl HC3 rfl (by omega) (wanted_none rfl) (v := Value.pointer (some ⟨kb, 0, none⟩)) (fun wr hwr => by simp only [execOp, (F9.eval 65 (by omega)).trans (show _ = Value.pointer (some ⟨kb, 0, none⟩) from by simp [upd, ee0, ee1])]; simp [go_sem]) fun F10 => ?_
      refine lyp F10 rfl HC3 rfl (by omega) (wanted_none rfl) (v := Value.pointer (some ⟨kb, 6, none⟩)) (fun wr hwr => by simp only [execOp, (F10.eval 74 (by omega)).trans (show _ = Value.pointer (some ⟨kb, 0, none⟩) from by simp [upd, ee0, ee1])]; simp [go_sem]) fun F11 => ?_
      refine lst rfl HC3 rfl (wanted_none rfl) (w1 := w3.setCell ⟨kb, 6, none⟩ (Value.slice a3 (hln + 1) c3)) (by simp only [execOp, (F11.eval 75 (by omega)).trans (show _ = Value.pointer (some ⟨kb, 6, none⟩) from by simp [upd, ee0, ee1]), (F11.eval 73 (by omega)).trans (show _ = Value.slice a3 (hln + 1) c3 from by simp [upd, ee0, ee1])]; simp [go_sem, d63, f63]) ?_
      refine ⟨fun h => by omega, ?_⟩
      first | refine hK _ _ ?_ | skip
      clear F0 F1 F2 F3 F4 F5 F6 F7 F8 F9 F10 F11 ee0 ee1 HCC HC1 HC2 HC3
      simp only [Act.put, List.setIfInBounds_toArray, List.set_cons_succ, List.set_cons_zero]
      clear d6 d61 d62 d63 f63 HR1 HR3
      generalize w3.setCell ⟨kb, 6, none⟩ (.slice a3 (hln + 1) c3) = W6 at HW3 HH6 ⊢
      have e7 : W6.cell? ⟨kb, 7, none⟩ = some (.int .i64 (next : Int)) := HH6.out.boxB.cell 7
      have g7 : W6.frozen? ⟨kb, 7, none⟩ = false := HH6.out.boxB.frozen 7
      have hH7 := HH6.out.boxSet 7 (.int .i64 ((next : Int) + (i : Int)))
      have HW7 : Hid (Below L w (W6.setCell ⟨kb, 7, none⟩ (.int .i64 ((next : Int) + (i : Int))))) := HW3.out.trans ((setCell_chg _ _ _ _).below (HH6.out.lowL (k := kb) rfl) (fun j e => by rw [e]; exact (HH6.out.all _ (List.mem_cons_self ..)).2))
      have HH7 : Hid _ := hH7
      clear hH7 HH6 HW3
      have HNM : Hid (∀ X : World, Calls Try.prog 12 #[.int .i64 0] X fun e w' => e = .returned (.int .i64 0) ∧ w' = X) := fun X => num_any 0 X
      go_upto_region 22 with fail
      generalize W6.setCell ⟨kb, 7, none⟩ (.int .i64 ((next : Int) + (i : Int))) = W7 at HW7 HH7 ⊢
      have hH8 := HH7.out.perm (fin_perm (S := haveE L (.slice ho4 i hc4) ss))
      have HF8 : Hid (Held (datE L (.slice (some ⟨g, 0, none⟩) (vn + 2) cc, bs ++ mk2) :: deskH L kb p s sb jb (wroteX x (hln + 1) next bs i) x2 y2 iv (-1) torn (.slice a3 (hln + 1) c3) (hs ++ [(.slice a1 vn c1, bs)]) (next + i) R) W7) := by
        have h9 := hH8.tailR
        rw [Hid]
        simpa [deskH, deskC] using h9
      clear hH8 HH7
      have HBK : Hid _ := back_any W7 (lent_dat HF8.out HH.out.2.2.2) HCC.out (HALL.out W7 HW7.out) HH.out.2.2.2 (by omega)
      have HFI : Hid ((∀ W', Chg (fun k => k = g) W7 W' → Held (deskH L kb p s sb jb (wroteX x (hln + 1) next bs i) x2 y2 iv (-1) torn (.slice a3 (hln + 1) c3) (hs ++ [(.slice a1 vn c1, bs)]) (next + i) R) W' ∧ Below L w W')) := fun W' hc => ⟨Held.dropRow HF8.out hc, HW7.out.trans (hc.below (Nat.le_trans (desk_lo HH.out.1) HW7.out.size) (fun j hj => by rw [hj]; exact (ownsRow_lt (lent_dat HF8.out HH.out.2.2.2) rfl).1))⟩
      clear HF8 HW7 e7 g7
      go_wp2_with fail
      refine Calls.mono HBK.out ?_
      rintro e w9 ⟨rfl, _, hc9⟩
      have HF9 : Hid _ := HFI.out w9 hc9
      clear HBK hc9 HFI
      go_wp2_with fail
      refine Calls.mono (HNM.out _) ?_
      rintro e wo ⟨rfl, hwo⟩
      replace hwo := hwo.symm
      subst hwo
      go_wp2_with fail
      go_ret
      unfold ApPost
      have hwf := wroteX_facts x (hs.length + 1) next bs HH.out.2.2.1.armed i
      have hx2 := HYX.out.2
      have hy2 := HYX.out.1
      have hkk : kS bs.length = i := by rw [HH.out.2.2.2, ← HKK.out]
      rw [← HLN.out] at hx2 hwf
      have hdo := HH.out.2.1
      refine ⟨rfl, y2, x2, .slice a3 (hln + 1) c3, hs ++ [(.slice a1 vn c1, bs)], next + i, ?_, ⟨?_, ?_, ?_, ?_, ?_, ?_, ?_, ?_, ?_, ?_⟩, ⟨?_, ?_, ?_, ?_⟩, ?_, ?_, HF9.out.2⟩
      · have h9 := HF9.out.1
        rw [← hx2] at h9
        exact h9
      · rw [hy2]; exact hdo.ep
      · rw [hy2]; show (y.recs ++ [(v', bs)]).map Prod.snd = _; rw [List.map_append, List.map_append, hdo.recs]; rfl
      · rw [hy2]; show y.next + kS bs.length = _; rw [hdo.enx, hkk]
      · rw [hy2, hx2, hwf.2.1]; exact hdo.fin
      · rw [hx2, hwf.2.1]; have := HNX.out; omega
      · rw [hx2, hwf.2.1]; exact hdo.n1
      · rw [hx2, hwf.2.1]; exact hdo.n2
      · intro d hd
        rw [hy2] at hd
        rcases List.mem_append.1 hd with h3 | h3
        · exact hdo.l8 d h3
        · rw [List.mem_singleton.1 h3]; show bs.length ≤ 8192; rw [HH.out.2.2.2]; exact h8
      · exact ⟨a3, c3, by rw [List.length_append, ← HLN.out]; rfl⟩
      · rw [List.length_append, ← HLN.out]; have := kS_pos vn; have := HKK.out; show hln + 1 ≤ _; omega
      · rw [hx2, hwf.1]; exact HH.out.2.2.1.off
      · rw [hx2]; exact hwf.2.2.1
      · rw [hx2, hwf.2.2.2.1]; exact HH.out.2.2.1.whole
      · rw [hx2, hwf.2.2.2.2]; have := HH.out.2.2.1.writes; omega
      · rw [hx2, hwf.2.1]
      · rw [hx2, hwf.2.2.2.2, Nat.min_eq_left h8, ← HKK.out]; omega
end Go.Proofs.Ytcnokgphioigoaa
