import Derived.Test.YtcnokgphioigoaaJq5
namespace Go.Proofs.Ytcnokgphioigoaa
open Go.RowKit Go.PlainAid
set_option linter.unusedVariables false
set_option linter.unusedSimpArgs false
theorem im_congr {L : Nat} {iv : Value} {a b : DV} (h1 : a.n = b.n) (h2 : a.b = b.b) : imE L iv a = imE L iv b := by
  unfold imE imgL
  rw [h1, h2]
theorem dec_nb (z : DV) : z.dec.n = z.n ∧ z.dec.b = z.b := by
  unfold DV.dec
  split <;> exact ⟨rfl, rfl⟩
theorem put_nb {a b : DV} (h1 : a.n = b.n) (h2 : a.b = b.b) (i m : Nat) (bs : List UInt8) : (a.put i m bs).n = (b.put i m bs).n ∧ (a.put i m bs).b = (b.put i m bs).b := by
  unfold DV.put
  exact ⟨h1, by simp only [h2]⟩
theorem wro_imG {L : Nat} {iv : Value} (x : DV) (num next i : Nat) (bs : List UInt8) : imE L iv ((wroteX x num next bs i).put (next + i) 512 (secJ (markL num i bs.length) (pieceL bs i))) = imE L iv (wroteX x num next bs (i + 1)) := by
  have h0 := dec_nb ((wroteX x num next bs i).noted (next + i))
  obtain ⟨h1, h2⟩ := put_nb (a := wroteX x num next bs i) (b := ((wroteX x num next bs i).noted (next + i)).dec) h0.1.symm h0.2.symm (next + i) 512 (secJ (markL num i bs.length) (pieceL bs i))
  exact im_congr h1 h2
/-- How many writes are left. -/
def lf (d : DK) (i : Nat) : Int := if d.x.armed = true then d.left - (i : Int) else -1
/-- A desk in the midst of a record. -/
structure ApLoopG (L g vn cc : Nat) (d : DK) (x2 : DV) (J2 : List (Ent L)) (bs : List UInt8) (R : List (Ent L)) (w : World) (num : Nat) (sv : Value) (ss : List (Value × List UInt8)) (i : Nat) (wr : World) : Prop where
  h : Held (haveE L sv ss ++ (datE L (.slice (some ⟨g, 0, none⟩) (vn + 2) cc, bs ++ mk2) :: ({ d with x := x2, left := lf d i } : DK).es L (wroteX d.x num d.next bs i) J2 R)) wr
  bl : Below L w wr
section
variable {L : Nat} {wr w' w : World} {num k i : Nat} {bs : List UInt8} {ss : List (Value × List UInt8)} {T R : List (Ent L)}
theorem sec_of {so : Option Addr} {sc : Nat} (h : Held (haveE L (.slice so k sc) ss ++ T) wr) (hik : i < k) (hl : ss.length = k) (hm : ss.map Prod.snd = secsL num bs k) : ∃ b9 o9 uo un uc, so = some ⟨b9, o9, none⟩ ∧ wr.cell? ⟨b9, o9 + i, none⟩ = some (.slice uo un uc) ∧ un = 512 ∧ (∀ W, Held (haveE L (.slice so k sc) ss) W → By W (.slice uo un uc) (secJ (markL num i bs.length) (pieceL bs i))) := by
  have ht : Tail wr L 38 (.slice so k sc) ss.length (ss.map Prod.fst) := h.all (tailE L 38 (.slice so k sc) ss.length (ss.map Prod.fst)) (by simp [haveE])
  have hd : ss[i]? = some (ss[i]'(by omega)) := List.getElem?_eq_getElem _
  obtain ⟨d, hde⟩ : ∃ d, d = ss[i]'(by omega) := ⟨_, rfl⟩
  rw [← hde] at hd
  have h2 : d.2 = secJ (markL num i bs.length) (pieceL bs i) := by
    have h3 : (ss.map Prod.snd)[i]? = some d.2 := by rw [List.getElem?_map, hd]; rfl
    rw [hm, secsL, List.getElem?_map, List.getElem?_range hik] at h3
    exact (Option.some.inj h3).symm
  obtain ⟨b9, o9, cap, e1, e2⟩ := tail_at ht (i := i) (u := d.1) (by rw [List.getElem?_map, hd]; rfl)
  have hso : so = some ⟨b9, o9, none⟩ := by cases e1; rfl
  subst hso
  have hby : ∀ W, Held (haveE L (.slice (some ⟨b9, o9, none⟩) k sc) ss) W → By W d.1 d.2 := fun W hW => (hW.all (byE L d) (List.mem_cons_of_mem _ (List.mem_map_of_mem (List.mem_of_getElem? hd)))).1
  obtain ⟨uo, un, uc, e5, e6, _⟩ := id (hby wr (Held.subl h (List.sublist_append_left _ _)))
  rw [h2] at hby e6
  rw [secJ_len] at e6
  rw [e5] at e2 hby
  exact ⟨b9, o9, uo, un, uc, rfl, e2, e6.symm, hby⟩
theorem sec_sameG {so : Option Addr} {sc : Nat} {T' : List (Ent L)} (h0 : Held (haveE L (.slice so k sc) ss ++ T') wr) (h : Held (haveE L (.slice so k sc) ss ++ T) w') {b9 o9 : Nat} {u : Value} (hso : so = some ⟨b9, o9, none⟩) (hu : wr.cell? ⟨b9, o9 + i, none⟩ = some u) (hik : i < k) (hl : ss.length = k) : w'.cell? ⟨b9, o9 + i, none⟩ = some u := by
  subst hso
  have h1 : Tail wr L 38 (.slice (some ⟨b9, o9, none⟩) k sc) ss.length (ss.map Prod.fst) := h0.all (tailE L 38 (.slice (some ⟨b9, o9, none⟩) k sc) ss.length (ss.map Prod.fst)) (by simp [haveE])
  have h2 : Tail w' L 38 (.slice (some ⟨b9, o9, none⟩) k sc) ss.length (ss.map Prod.fst) := h.all (tailE L 38 (.slice (some ⟨b9, o9, none⟩) k sc) ss.length (ss.map Prod.fst)) (by simp [haveE])
  have hd : (ss.map Prod.fst)[i]? = some ((ss.map Prod.fst)[i]'(by rw [List.length_map]; omega)) := List.getElem?_eq_getElem _
  obtain ⟨_, _, _, e1, e2⟩ := tail_at h1 hd
  obtain ⟨_, _, _, e3, e4⟩ := tail_at h2 hd
  cases e1
  cases e3
  rw [e4, ← e2, hu]
end
section
variable {L g vn cc : Nat} {d : DK} {x2 : DV} {J2 : List (Ent L)} {bs : List UInt8} {R : List (Ent L)} {w : World} {num k : Nat} {ss : List (Value × List UInt8)} {i : Nat} {wr : World}
theorem ApLoopG.box {sv : Value} (a : ApLoopG L g vn cc d x2 J2 bs R w num sv ss i wr) : Blk wr d.kb ({ d with x := x2, left := lf d i } : DK).cs 64 := dk_box (Held.drop (Held.tailR a.h))
theorem lf_next {y : JV} (hd : DKO d y) (hi : d.x.armed = true → i < d.x.whole) : lf d i ≠ 0 ∧ -1 ≤ lf d i ∧ lf d i ≤ 9223372036854775807 ∧ ((lf d i - 1 < -1 ∧ lf d (i + 1) = -1) ∨ (¬ (lf d i - 1 < -1) ∧ lf d (i + 1) = lf d i - 1)) := by
  unfold lf
  cases ha : d.x.armed with
  | false => simp
  | true =>
    have h1 := (hd.arm ha).2.1
    have h2 := hi ha
    have h3 := hd.wh
    simp only [if_true, h1]
    refine ⟨by omega, by omega, by omega, Or.inr ⟨by omega, by push_cast; omega⟩⟩
theorem ApLoopG.write {so uo : Option Addr} {sc un uc : Nat} {y : JV} (a : ApLoopG L g vn cc d x2 J2 bs R w num (.slice so k sc) ss i wr) (hd : DKO d y) (hon : d.on = true) (hun : un = 512) (hby : ∀ W, Held (haveE L (.slice so k sc) ss) W → By W (.slice uo un uc) (secJ (markL num i bs.length) (pieceL bs i))) (hin : d.next + i < d.x.n) (hi : d.x.armed = true → i < d.x.whole) (q : Nat) :
    Calls Try.prog 66 #[.pointer (some ⟨d.kb, 0, none⟩), .int .i64 ((d.next : Int) + (i : Int)), .slice uo un uc] (wr.drewN q) fun e w' => e = .returned (.bool true) ∧ w'.cell? ⟨d.kb, 4, none⟩ = some (.int .i64 (lf d i - 1)) ∧ w'.frozen? ⟨d.kb, 4, none⟩ = false ∧ (w'.cell? ⟨d.kb, 7, none⟩ = some (.int .i64 (d.next : Int)) ∧ ∀ b9 o9 u, so = some ⟨b9, o9, none⟩ → wr.cell? ⟨b9, o9 + i, none⟩ = some u → i < k → ss.length = k → w'.cell? ⟨b9, o9 + i, none⟩ = some u) ∧ ApLoopG L g vn cc d x2 J2 bs R w num (.slice so k sc) ss (i + 1) (w'.setCell ⟨d.kb, 4, none⟩ (.int .i64 (lf d (i + 1)))) := by
  have hw := wroteX_arm d.x num d.next bs i (fun e => Nat.le_of_lt (hi e))
  obtain ⟨l0, l1, l2, l3⟩ := lf_next hd hi
  have h1 := (a.h.drewN q).perm loop_perm
  have hcs : ({ d with x := x2, left := lf d i } : DK).cs = deskC d.p (.pointer (some ⟨d.jb, 0, none⟩)) d.iv true (lf d i) d.torn d.hv d.next d.dead d.sb := by
    show deskC d.p (.pointer (some ⟨d.jb, 0, none⟩)) d.iv d.on (lf d i) d.torn d.hv d.next d.dead d.sb = _
    rw [hon]
  rw [hcs] at h1
  have h2 := written_wholeG (at' := d.next + i) (so := uo) (sn := un) (sc := uc) (bs := secJ (markL num i bs.length) (pieceL bs i)) (lf d i) (wr.drewN q) h1 (fun W _ hW => hby W (Held.subl hW (List.sublist_append_left _ _))) hun (by rw [hw.2.1]; exact hin) (by rw [hw.2.1]; exact hd.n1) (by rw [hw.2.1]; exact hd.n2) l0 l1 l2
  rw [show ((d.next + i : Nat) : Int) = (d.next : Int) + (i : Int) by omega, wro_imG] at h2
  refine h2.mono ?_
  rintro e w' ⟨rfl, k1, k2⟩
  have k3 := k1.boxSet 4 (.int .i64 (lf d (i + 1)))
  have hcs2 : (deskC d.p (.pointer (some ⟨d.jb, 0, none⟩)) d.iv true (lf d i - 1) d.torn d.hv d.next d.dead d.sb).setIfInBounds 4 (.int .i64 (lf d (i + 1))) = ({ d with x := x2, left := lf d (i + 1) } : DK).cs := by
    show deskC d.p (.pointer (some ⟨d.jb, 0, none⟩)) d.iv true (lf d (i + 1)) d.torn d.hv d.next d.dead d.sb = deskC d.p (.pointer (some ⟨d.jb, 0, none⟩)) d.iv d.on (lf d (i + 1)) d.torn d.hv d.next d.dead d.sb
    rw [hon]
  rw [hcs2] at k3
  exact ⟨rfl, k1.boxB.cell 4, k1.boxB.frozen 4, ⟨k1.boxB.cell 7, fun b9 o9 u hso hu hik hl => sec_sameG a.h (k1.perm loop_perm.symm) hso hu hik hl⟩, k3.perm loop_perm.symm, ((a.bl.trans (below_dr (Below.refl _ _) q)).trans k2).trans ((setCell_chg _ _ _ _).below (k1.lowL (k := d.kb) rfl) (fun j e => by rw [e]; exact (k1.all _ (List.mem_cons_self ..)).2))⟩
/-- A desk on which the power has failed. -/
structure ApTornG (L g vn cc : Nat) (d : DK) (x2 : DV) (J2 : List (Ent L)) (bs : List UInt8) (R : List (Ent L)) (w : World) (num : Nat) (sv : Value) (ss : List (Value × List UInt8)) (m : Nat) (dead : Bool) (wr : World) : Prop where
  h : Held (haveE L sv ss ++ (datE L (.slice (some ⟨g, 0, none⟩) (vn + 2) cc, bs ++ mk2) :: ({ d with x := x2, left := -1, on := false, dead := dead } : DK).es L (tornX d.x num d.next bs m) J2 R)) wr
  bl : Below L w wr
theorem torn_im {iv : Value} (x : DV) (num next m : Nat) (bs : List UInt8) : imE L iv ((wroteX x num next bs m).put (next + m) x.torn (secJ (markL num m bs.length) (pieceL bs m))) = imE L iv (tornX x num next bs m) := im_congr rfl rfl
theorem ApLoopG.writeTorn {so uo : Option Addr} {sc un uc : Nat} {y : JV} (a : ApLoopG L g vn cc d x2 J2 bs R w num (.slice so k sc) ss i wr) (hd : DKO d y) (hon : d.on = true) (ht1 : -9223372036854775808 ≤ d.torn) (ht2 : d.torn ≤ 9223372036854775807) (hun : un = 512) (hby : ∀ W, Held (haveE L (.slice so k sc) ss) W → By W (.slice uo un uc) (secJ (markL num i bs.length) (pieceL bs i))) (hin : d.next + i < d.x.n) (har : d.x.armed = true) (hi : i = d.x.whole) (q : Nat) :
    Calls Try.prog 66 #[.pointer (some ⟨d.kb, 0, none⟩), .int .i64 ((d.next : Int) + (i : Int)), .slice uo un uc] (wr.drewN q) fun e w' => e = .returned (.bool false) ∧ w'.cell? ⟨d.kb, 4, none⟩ = some (.int .i64 (-1)) ∧ w'.frozen? ⟨d.kb, 4, none⟩ = false ∧ (w'.cell? ⟨d.kb, 7, none⟩ = some (.int .i64 (d.next : Int)) ∧ ∀ b9 o9 u, so = some ⟨b9, o9, none⟩ → wr.cell? ⟨b9, o9 + i, none⟩ = some u → i < k → ss.length = k → w'.cell? ⟨b9, o9 + i, none⟩ = some u) ∧ ApTornG L g vn cc d x2 J2 bs R w num (.slice so k sc) ss i d.dead w' := by
  have hw := wroteX_arm d.x num d.next bs i (fun e => by omega)
  have h1 := (a.h.drewN q).perm loop_perm
  have l0 : lf d i = 0 := by unfold lf; rw [if_pos har, (hd.arm har).2.1, hi]; omega
  have hcs : ({ d with x := x2, left := lf d i } : DK).cs = deskC d.p (.pointer (some ⟨d.jb, 0, none⟩)) d.iv true (lf d i) d.torn d.hv d.next d.dead d.sb := by
    show deskC d.p (.pointer (some ⟨d.jb, 0, none⟩)) d.iv d.on (lf d i) d.torn d.hv d.next d.dead d.sb = _
    rw [hon]
  rw [hcs] at h1
  have h2 := written_tornG (at' := d.next + i) (so := uo) (sn := un) (sc := uc) (bs := secJ (markL num i bs.length) (pieceL bs i)) (lf d i) (wr.drewN q) d.x.torn h1 (fun W _ hW => hby W (Held.subl hW (List.sublist_append_left _ _))) hun (by rw [hw.2.1]; exact hin) (by rw [hw.2.1]; exact hd.n1) (by rw [hw.2.1]; exact hd.n2) l0 (hd.arm har).2.2 ht1 ht2
  rw [show ((d.next + i : Nat) : Int) = (d.next : Int) + (i : Int) by omega, torn_im] at h2
  refine h2.mono ?_
  rintro e w' ⟨rfl, k1, k2⟩
  exact ⟨rfl, k1.boxB.cell 4, k1.boxB.frozen 4, ⟨k1.boxB.cell 7, fun b9 o9 u hso hu hik hl => sec_sameG a.h (k1.perm loop_perm.symm) hso hu hik hl⟩, k1.perm loop_perm.symm, (a.bl.trans (below_dr (Below.refl _ _) q)).trans k2⟩
end
end Go.Proofs.Ytcnokgphioigoaa
