import Derived.Test.YtcnokgphioigoaaJB
import Derived.Test.YtcnokgphioigoaaJq6
import Derived.Deep.Cut
import Derived.Deep.CutRange
import Derived.Deep.RegionWith
import Derived.BigQuiet
namespace Go.Proofs.Ytcnokgphioigoaa
open Go.RowKit Go.PlainAid
set_option linter.unusedVariables false
set_option linter.unusedSimpArgs false
set_option maxRecDepth 100000
set_option maxHeartbeats 6400000
theorem appends_wholeG {L vn vc : Nat} {d : DK} {y : JV} {R : List (Ent L)} {vo : Option Addr} {bs : List UInt8} (w : World) (h : Held (d.es L d.x (JE L d.jb y d.dead) R) w) (hd : DKO d y) (hall : ∀ W, Below L w W → By W (.slice vo vn vc) bs) (hl : bs.length = vn) (hvn : vn ≤ 140737488351232) (hwr : d.x.writes ≤ 800000000000000000) (hdd : d.dead = false) (hoff : d.x.off = false) (h8 : vn ≤ 8192) (hrm : d.next + kS vn ≤ d.x.n) (hwk : d.x.armed = true → kS vn ≤ d.x.whole) :
    Calls Try.prog 58 #[.pointer (some ⟨d.kb, 0, none⟩), .slice vo vn vc] w (ApQ L d vn R w) := by
  have hln := lent_any w (hall w (Below.refl _ _)) (by omega)
  rw [hl] at hln
  have HLN : Hid _ := hln
  have HALL : Hid (∀ W, Below L w W → By W (.slice vo vn vc) bs) := hall
  rw [hdd] at h
  have hJ : Held (d.es L d.x (y.es L d.jb) R) w := h
  have HH : Hid (Held (d.es L d.x (y.es L d.jb) R) w ∧ DKO d y ∧ d.x.writes ≤ 800000000000000000 ∧ bs.length = vn) := ⟨hJ, hd, hwr, hl⟩
  have HX : Hid (d.dead = false ∧ d.x.off = false ∧ d.next + kS vn ≤ d.x.n ∧ (d.x.armed = true → kS vn ≤ d.x.whole)) := ⟨hdd, hoff, hrm, hwk⟩
  have hkm := kS_pos vn
  clear h hJ hd hwr hall hl hln hdd hoff hrm hwk
  go_enter Try.func58, Try.ntmps58
  go_wp2_with fail
  refine Calls.mono HLN.out ?_
  rintro e w1 ⟨g, cc, rfl, hcc, hown, hb1⟩
  clear HLN
  have hL : L ≤ w.heap.size := dk_lo HH.out.1
  have h1 : Held (datE L (.slice (some ⟨g, 0, none⟩) (vn + 2) cc, bs ++ mk2) :: d.es L d.x (y.es L d.jb) R) w1 := Held.fresh (R := d.es L d.x (y.es L d.jb) R) HH.out.1 hb1 (own_any (ownsRow_mono hown hL) (by rw [HH.out.2.2.2])) (fun j hj => by
    have e : some g = some j := hj
    cases e
    exact (ownsRow_lt hown (g := g) rfl).1)
  have HAP : Hid (∀ q, Calls Try.prog 16 #[.pointer (some ⟨d.jb, 0, none⟩), .slice (some ⟨g, 0, none⟩) vn cc] (w1.drewN q) fun e W' => e = .returned (.int .i64 0) ∧ ApMidG L d d.x (datE L (.slice (some ⟨g, 0, none⟩) (vn + 2) cc, bs ++ mk2)) R w (fun J' x' => ∃ rv' v', J' = (y.added rv' v' bs).es L d.jb ∧ x' = wroteX d.x (d.hs.length + 1) d.next bs (kS vn)) W') := mid_liftG (hb1.mono hL) h1 (fun W hW => by
    have hlv := HH.out.2.1.live HX.out.1
    have hle := HH.out.2.1.le
    have hn2 := HH.out.2.1.n2
    have hhl := HH.out.2.1.hl
    have hlen : y.recs.length = d.hs.length := by have := congrArg List.length hlv.2.1; simpa using this
    rw [← hlv.1] at hW ⊢
    refine (append_gen (bs := bs) W hW (fun W2 _ hR => lent_by hR HH.out.2.2.2) (by omega) h8 HX.out.2.1 HH.out.2.1.tn HH.out.2.1.wh (by have := HH.out.2.2.1; omega) (by omega) (by rw [hlv.2.2.1, hlv.2.2.2.1]; exact HX.out.2.2.1) hlv.2.2.2.1 (by omega)).mono ?_
    rintro e W' (⟨q1, rfl, rv', v', k1, k2⟩ | ⟨q1, q2, rfl, k1, k2⟩)
    · rw [hlen, hlv.2.2.1] at k1
      exact ⟨rfl, _, _, k1, k2, rv', v', rfl, rfl⟩
    · have := HX.out.2.2.2 q1
      omega)
  have c1 : w1.cell? ⟨d.kb, 1, none⟩ = some (.pointer (some ⟨d.jb, 0, none⟩)) := (dk_box h1.drop).cell 1
  have hsl : ∀ W, (Instr.sliceAt 38 (.slice (some ⟨g, 0, none⟩) (vn + 2) cc) none (some (.int .i64 (vn : Int))) none).run Try.prog W = .ok (.slice (some ⟨g, 0, none⟩) vn cc) W := fun W => slice38h g 0 (vn + 2) cc vn (by omega) W
  have HCC : Hid (vn + 2 ≤ cc) := hcc
  clear hown hb1 h1 hcc hL
  go_wp2_with fail
  go_cut [6] from 12 to 20 (fun s6 wy => s6 = .int .i64 0 ∧ ApMidG L d d.x (datE L (.slice (some ⟨g, 0, none⟩) (vn + 2) cc, bs ++ mk2)) R w (fun J' x' => ∃ rv' v', J' = (y.added rv' v' bs).es L d.jb ∧ x' = wroteX d.x (d.hs.length + 1) d.next bs (kS vn)) wy)
  case first =>
    go_region_with (go_at_call 16; refine (by first | exact HAP.out 0 | exact HAP.out 1 : Calls Try.prog 16 _ _ _).mono ?_; rintro e w2 ⟨rfl, hm⟩)
    all_goals
      have HM : Hid _ := hm
      clear hm
      go_wp2_with fail
      go_meet
      case rel => exact ⟨rfl, HM.out⟩
  case rest =>
  obtain ⟨rfl, J', x', hH2, hb2, hQ⟩ := hcut
  clear hsl c1 HAP
  have c3 : wc.cell? ⟨d.kb, 3, none⟩ = some (.bool true) := by have := (dk_box hH2.drop).cell 3; rw [this]; exact congrArg some (congrArg Value.bool (by show d.on = true; rw [HH.out.2.1.eon, HX.out.2.1]; rfl))
  have c8 : wc.cell? ⟨d.kb, 8, none⟩ = some (.bool false) := by have := (dk_box hH2.drop).cell 8; rw [this]; exact congrArg some (congrArg Value.bool HX.out.1)
  have hv8 : ¬ ((8192 : Int) < (vn : Int)) := by omega
  have hrm := HX.out.2.2.1
  obtain ⟨rv', v', rfl, rfl⟩ := hQ
  have hle := HH.out.2.1.le
  have hn1 := HH.out.2.1.n1
  have hn2 := HH.out.2.1.n2
  have hhl := HH.out.2.1.hl
  obtain ⟨ho, hc, hve⟩ := HH.out.2.1.ehv
  have HKC : Hid (∀ q, Calls Try.prog 59 #[.int .i64 (vn : Int)] (wc.drewN q) fun e w' => e = .returned (.int .i64 (kS vn : Int)) ∧ w' = wc.drewN q) := fun q => count_any vn _ (by omega)
  obtain ⟨ig, ic, hie, _, _⟩ := im_lit (show wc.ownsRow L 5 1 d.iv (d.x.n * 512) ((imgL d.x).map B) from by have := dk_im hH2.drop; exact this) hn1
  have c2 : wc.cell? ⟨d.kb, 2, none⟩ = some (.slice (some ⟨ig, 0, none⟩) (d.x.n * 512) ic) := by rw [← hie]; exact (dk_box hH2.drop).cell 2
  have c7 : wc.cell? ⟨d.kb, 7, none⟩ = some (.int .i64 (d.next : Int)) := (dk_box hH2.drop).cell 7
  have c6 : wc.cell? ⟨d.kb, 6, none⟩ = some (.slice ho d.hs.length hc) := by rw [← hve]; exact (dk_box hH2.drop).cell 6
  have hq : Int.tdiv ((d.x.n * 512 : Nat) : Int) 512 = (d.x.n : Int) := by rw [Int.tdiv_eq_ediv_of_nonneg (by omega)]; omega
  have hk2 := kS_le vn h8
  obtain ⟨k, hk⟩ : ∃ k, k = kS vn := ⟨_, rfl⟩
  have HKK : Hid (k = kS vn) := hk
  rw [← hk] at HKC hrm hk2 hH2
  obtain ⟨N, hN⟩ : ∃ N, N = d.x.n := ⟨_, rfl⟩
  have HNX : Hid (N = d.x.n) := hN
  rw [← hN] at c2 hq hrm hle hn2
  have hgt : ¬ ((N : Int) - (d.next : Int) < (k : Int)) := by omega
  obtain ⟨hln, hhln⟩ : ∃ l, l = d.hs.length := ⟨_, rfl⟩
  have HLN : Hid (hln = d.hs.length) := hhln
  rw [← hhln] at c6 hhl
  obtain ⟨y2, hy2⟩ : ∃ y2, y2 = y.added rv' v' bs := ⟨_, rfl⟩
  obtain ⟨x2, hx2⟩ : ∃ x2, x2 = wroteX d.x (d.hs.length + 1) d.next bs k := ⟨_, rfl⟩
  have HYX : Hid (y2 = y.added rv' v' bs ∧ x2 = wroteX d.x (d.hs.length + 1) d.next bs k) := ⟨hy2, hx2⟩
  rw [← hy2, ← hx2] at hH2
  have HH2 : Hid (Held (datE L (.slice (some ⟨g, 0, none⟩) (vn + 2) cc, bs ++ mk2) :: ({ d with x := x2 } : DK).es L d.x (y2.es L d.jb) R) wc ∧ Below L w wc) := ⟨hH2, hb2⟩
  have HVE : Hid (d.hv = .slice ho d.hs.length hc) := hve
  have HEL : Hid (L ≤ wc.heap.size) := Nat.le_trans (dk_lo HH.out.1) hb2.size
  clear hH2 hb2 hie hk hN hn1 hkm hhln hy2 hx2 hve
  go_wp2_with fail
  go_quiet (first | (go_at_call 59; refine Calls.quiet_of_same (HKC.out _)))
  have hH3 : Held (datE L (.slice (some ⟨g, 0, none⟩) (vn + 2) cc, bs ++ mk2) :: ({ d with x := x2 } : DK).es L d.x (y2.es L d.jb) R) (wc.drewN nq) := HH2.out.1.drewN nq
  have hb3 : Below L w (wc.drewN nq) := below_dr HH2.out.2 nq
  have hL3 : L ≤ (wc.drewN nq).heap.size := HEL.out
  have d6 : (wc.drewN nq).cell? ⟨d.kb, 6, none⟩ = some (.slice ho hln hc) := c6
  clear HKC HH2 c2 c7 c3 c8 c6 hq hgt HEL
  generalize wc.drewN nq = X at hH3 hb3 hL3 d6 ⊢
  have HSC : Hid _ := sectors_ref (L := L) (R := datE L (.slice (some ⟨g, 0, none⟩) (vn + 2) cc, bs ++ mk2) :: ({ d with x := x2 } : DK).es L d.x (y2.es L d.jb) R) (num := hln + 1) (vo := vo) (vn := vn) (vc := vc) (bs := bs) X hH3 hL3 (fun W hW _ => HALL.out W (hb3.trans hW)) HH.out.2.2.2 h8 (by omega)
  have HB3 : Hid (Below L w X) := hb3
  clear hH3 hb3 hL3
  go_wp2_with fail
  refine Calls.mono HSC.out ?_
  rintro e w4 ⟨v4, rfl, ho4, hc4, ss, rfl, hsl4, hsm4, hH4, hb4⟩
  rw [← HKK.out] at hsl4 hsm4 hH4
  have HS4 : Hid (ss.length = k ∧ ss.map Prod.snd = secsL (hln + 1) bs k ∧ (Below L w w4)) := ⟨hsl4, hsm4, HB3.out.trans hb4⟩
  have HX0 : Hid (ApLoopG L g vn cc d x2 (y2.es L d.jb) bs R w (hln + 1) (.slice ho4 k hc4) ss 0 w4) := by
    refine ⟨?_, HB3.out.trans hb4⟩
    have h0 : lf d 0 = d.left := by
      unfold lf
      cases ha : d.x.armed with
      | false => rw [if_neg (by simp)]; exact (HH.out.2.1.dis ha).symm
      | true => rw [if_pos rfl]; simp
    rw [h0]
    exact hH4
  rw [show kS vn = k from HKK.out.symm]
  clear HSC hsl4 hsm4 hH4 hb4 d6
  go_wp2_with fail
  go_loopw [7, 9] (fun s7 s9 wr => ∃ i : Nat, i ≤ k ∧ s7 = .int .i64 0 ∧ s9 = .int .i64 (i : Int) ∧ ApLoopG L g vn cc d x2 (y2.es L d.jb) bs R w (hln + 1) (.slice ho4 k hc4) ss i wr) (fun _ s9 _ => k - (intOf s9).toNat)
  case atStart => exact ⟨0, by omega, rfl, rfl, HX0.out⟩
  case round =>
    clear HX0
    obtain ⟨i, hi, rfl, rfl, hA⟩ := hrel
    have HA : Hid _ := hA
    clear hA
    by_cases hik : i < k
    · have hiki : (i : Int) < (k : Int) := by omega
      obtain ⟨b9, o9, uo, un, uc, hoe, hcell, hun, hbyS⟩ := sec_of HA.out.h hik HS4.out.1 HS4.out.2.1
      subst hoe
      have e7 : wr.cell? ⟨d.kb, 7, none⟩ = some (.int .i64 (d.next : Int)) := HA.out.box.cell 7
      obtain ⟨z0, hz0⟩ : ∃ z : Int, z = lf d i - 1 := ⟨_, rfl⟩
      obtain ⟨z1, hz1⟩ : ∃ z : Int, z = lf d (i + 1) := ⟨_, rfl⟩
      have HZ : Hid ((z0 < -1 ∧ z1 = -1) ∨ (¬ (z0 < -1) ∧ z1 = z0)) := by rw [hz0, hz1]; exact (lf_next HH.out.2.1 (fun e => by have := HX.out.2.2.2 e; have := HKK.out; omega)).2.2.2
      have HWR : Hid (∀ (W : World) (z : Int), (∃ q, W = wr.drewN q) → z = (d.next : Int) + (i : Int) → Calls Try.prog 66 #[.pointer (some ⟨d.kb, 0, none⟩), .int .i64 z, .slice uo un uc] W fun e w' => e = .returned (.bool true) ∧ w'.cell? ⟨d.kb, 4, none⟩ = some (.int .i64 z0) ∧ w'.frozen? ⟨d.kb, 4, none⟩ = false ∧ (w'.cell? ⟨d.kb, 7, none⟩ = some (.int .i64 (d.next : Int)) ∧ w'.cell? ⟨b9, o9 + i, none⟩ = some (.slice uo un uc)) ∧ ApLoopG L g vn cc d x2 (y2.es L d.jb) bs R w (hln + 1) (.slice (some ⟨b9, o9, none⟩) k hc4) ss (i + 1) (w'.setCell ⟨d.kb, 4, none⟩ (.int .i64 z1))) := fun W z hW hz => by
        obtain ⟨q, rfl⟩ := hW
        subst hz
        have h9 := HA.out.write HH.out.2.1 (by rw [HH.out.2.1.eon, HX.out.2.1]; rfl) hun hbyS (by rw [← HNX.out]; omega) (fun e => by have := HX.out.2.2.2 e; have := HKK.out; omega) q
        rw [← hz0, ← hz1] at h9
        exact h9.mono (fun e w' ⟨h1, h2, h3, ⟨h4, h5⟩, h6⟩ => ⟨h1, h2, h3, ⟨h4, h5 _ _ _ rfl hcell hik HS4.out.1⟩, h6⟩)
      clear hbyS hz0 hz1
      go_wp2_with fail
      go_cut [51] from 29 to 62 (fun s51 wy => s51 = .bool false ∧ wy.cell? ⟨d.kb, 4, none⟩ = some (.int .i64 z0) ∧ wy.frozen? ⟨d.kb, 4, none⟩ = false ∧ ApLoopG L g vn cc d x2 (y2.es L d.jb) bs R w (hln + 1) (.slice (some ⟨b9, o9, none⟩) k hc4) ss (i + 1) (wy.setCell ⟨d.kb, 4, none⟩ (.int .i64 z1)))
      case first =>
        rename_i K hK
        try rw [show ∀ a : Act, a.put none undef = a from fun _ => rfl]
        refine wp_region_mix (fun wz : World => wz.cell? ⟨d.kb, 7, none⟩ = some (Value.int .i64 (d.next : Int)) ∧ wz.cell? ⟨b9, o9 + i, none⟩ = some (Value.slice uo un uc)) (fun i => i == 11 || i == 99) 99 (by kernel_rfl) rfl (by kernel_rfl) (by kernel_rfl) (by kernel_rfl) ?_
        refine withFrP (N := 129) rfl ?_
        intro f0 F0 hff
        have ee0 : f0 0 = Value.pointer (some ⟨d.kb, 0, none⟩) := hff 0
        have ee8 : f0 8 = Value.slice (some ⟨b9, o9, none⟩) k hc4 := hff 8
        have ee9 : f0 9 = Value.int .i64 (i : Int) := hff 9
        clear hff
        have HCC : (fun wz : World => wz.cell? ⟨d.kb, 7, none⟩ = some (Value.int .i64 (d.next : Int)) ∧ wz.cell? ⟨b9, o9 + i, none⟩ = some (Value.slice uo un uc)) (({ wr with drawn := wr.drawn + 1 } : World)) := ⟨e7, hcell⟩
        refine lyp F0 rfl HCC rfl (by omega) (wanted_none rfl) (v := Value.pointer (some ⟨d.kb, 0, none⟩)) (fun wr hwr => by simp only [execOp, (F0.eval 0 (by omega)).trans (show _ = Value.pointer (some ⟨d.kb, 0, none⟩) from by simp [upd, ee0, ee8, ee9])]; first | rfl | simp [go_sem]) fun F1 => ?_
        refine lyp F1 rfl HCC rfl (by omega) (wanted_none rfl) (v := Value.pointer (some ⟨d.kb, 0, none⟩)) (fun wr hwr => by simp only [execOp, (F1.eval 0 (by omega)).trans (show _ = Value.pointer (some ⟨d.kb, 0, none⟩) from by simp [upd, ee0, ee8, ee9])]; first | rfl | simp [go_sem]) fun F2 => ?_
        refine lyp F2 rfl HCC rfl (by omega) (wanted_none rfl) (v := Value.pointer (some ⟨d.kb, 0, none⟩)) (fun wr hwr => by simp only [execOp, (F2.eval 40 (by omega)).trans (show _ = Value.pointer (some ⟨d.kb, 0, none⟩) from by simp [upd, ee0, ee8, ee9])]; simp [go_sem]) fun F3 => ?_
        refine lyp F3 rfl HCC rfl (by omega) (wanted_none rfl) (v := Value.pointer (some ⟨d.kb, 7, none⟩)) (fun wr hwr => by simp only [execOp, (F3.eval 41 (by omega)).trans (show _ = Value.pointer (some ⟨d.kb, 0, none⟩) from by simp [upd, ee0, ee8, ee9])]; simp [go_sem]) fun F4 => ?_
        refine lyp F4 rfl HCC rfl (by omega) (wanted_none rfl) (v := Value.int .i64 (d.next : Int)) (fun wr hwr => by simp only [execOp, (F4.eval 42 (by omega)).trans (show _ = Value.pointer (some ⟨d.kb, 7, none⟩) from by simp [upd, ee0, ee8, ee9])]; simp [go_sem, hwr.1]) fun F5 => ?_
        refine lyp F5 rfl HCC rfl (by omega) (wanted_none rfl) (v := Value.int .i64 (i : Int)) (fun wr hwr => by simp only [execOp, (F5.eval 9 (by omega)).trans (show _ = Value.int .i64 (i : Int) from by simp [upd, ee0, ee8, ee9])]; first | rfl | simp [go_sem]) fun F6 => ?_
        refine lyp F6 rfl HCC rfl (by omega) (wanted_none rfl) (v := Value.int .i64 ((d.next : Int) + (i : Int))) (fun wr hwr => by simp only [execOp, (F6.eval 43 (by omega)).trans (show _ = Value.int .i64 (d.next : Int) from by simp [upd, ee0, ee8, ee9]), (F6.eval 44 (by omega)).trans (show _ = Value.int .i64 (i : Int) from by simp [upd, ee0, ee8, ee9])]; simp [go_sem, Act.eval, show IntKind.i64.wrap ((d.next : Int) + (i : Int)) = (d.next : Int) + (i : Int) from by rw [IntKind.wrap_i64]; omega]) fun F7 => ?_
        refine lyp F7 rfl HCC rfl (by omega) (wanted_none rfl) (v := Value.slice (some ⟨b9, o9, none⟩) k hc4) (fun wr hwr => by simp only [execOp, (F7.eval 8 (by omega)).trans (show _ = Value.slice (some ⟨b9, o9, none⟩) k hc4 from by simp [upd, ee0, ee8, ee9])]; first | rfl | simp [go_sem]) fun F8 => ?_
        refine lyp F8 rfl HCC rfl (by omega) (wanted_none rfl) (v := Value.int .i64 (i : Int)) (fun wr hwr => by simp only [execOp, (F8.eval 9 (by omega)).trans (show _ = Value.int .i64 (i : Int) from by simp [upd, ee0, ee8, ee9])]; first | rfl | simp [go_sem]) fun F9 => ?_
        refine lyp F9 rfl HCC rfl (by omega) (wanted_none rfl) (v := Value.pointer (some ⟨b9, o9 + i, none⟩)) (fun wr hwr => by simp only [execOp, (F9.eval 46 (by omega)).trans (show _ = Value.slice (some ⟨b9, o9, none⟩) k hc4 from by simp [upd, ee0, ee8, ee9]), (F9.eval 47 (by omega)).trans (show _ = Value.int .i64 (i : Int) from by simp [upd, ee0, ee8, ee9])]; simp only [Sem.run_bind, Sem.run_pure, Result.andThen_ok, idx_run 30 38 1 Try.underlying30 info30s wr b9 o9 k hc4 i hik, Nat.zero_add, Nat.mul_one]; try rfl) fun F10 => ?_
        refine lyp F10 rfl HCC rfl (by omega) (wanted_none rfl) (v := Value.slice uo un uc) (fun wr hwr => by simp only [execOp, (F10.eval 48 (by omega)).trans (show _ = Value.pointer (some ⟨b9, o9 + i, none⟩) from by simp [upd, ee0, ee8, ee9])]; simp [go_sem, hwr.2]) fun F11 => ?_
        refine lcp F11 rfl HCC rfl (by omega) (wanted_none rfl) (g := 66) (args := #[Value.pointer (some ⟨d.kb, 0, none⟩), Value.int .i64 ((d.next : Int) + (i : Int)), Value.slice uo un uc]) (by simp only [execOp, resolve, invoke, List.map_toArray, List.map_cons, List.map_nil, (F11.eval 39 (by omega)).trans (show _ = Value.pointer (some ⟨d.kb, 0, none⟩) from by simp [upd, ee0, ee8, ee9]), (F11.eval 45 (by omega)).trans (show _ = Value.int .i64 ((d.next : Int) + (i : Int)) from by simp [upd, ee0, ee8, ee9]), (F11.eval 49 (by omega)).trans (show _ = Value.slice uo un uc from by simp [upd, ee0, ee8, ee9])]; simp [go_sem, Act.eval]) (HWR.out _ _ ⟨1, rfl⟩ rfl) ?_
        rintro e5 w5 ⟨rfl, k1, k2, ⟨k3, k4⟩, k5⟩
        refine ⟨_, rfl, fun F12 => ?_⟩
        have HC5 : (fun wz : World => wz.cell? ⟨d.kb, 7, none⟩ = some (Value.int .i64 (d.next : Int)) ∧ wz.cell? ⟨b9, o9 + i, none⟩ = some (Value.slice uo un uc)) w5 := ⟨k3, k4⟩
        refine lyp F12 rfl HC5 rfl (by omega) (wanted_none rfl) (v := Value.bool false) (fun wr hwr => by simp only [execOp, (F12.eval 50 (by omega)).trans (show _ = Value.bool true from by simp [upd, ee0, ee8, ee9])]; simp [go_sem, Act.eval]) fun F13 => ?_
        refine ⟨fun _ => HC5, ?_⟩
        refine hK _ _ ?_
        clear F0 F1 F2 F3 F4 F5 F6 F7 F8 F9 F10 F11 F12 F13 ee0 ee8 ee9 HCC HC5
        simp only [Act.put, List.setIfInBounds_toArray, List.set_cons_succ, List.set_cons_zero]
        have HM : Hid _ := And.intro k1 (And.intro k2 k5)
        clear k1 k2 k3 k4 k5
        go_wp2_with fail
        go_meet
        case rel => exact ⟨rfl, HM.out⟩
      case rest =>
        obtain ⟨rfl, c4, f4, hA2⟩ := hcut
        have HA2 : Hid _ := hA2
        clear hA2 HWR hcell e7
        rcases HZ.out with ⟨q1, q2⟩ | ⟨q1, q2⟩
        · subst q2
          go_wp2_with fail
          go_roundw
          case rel => exact ⟨i + 1, by omega, rfl, by go_num, HA2.out⟩
          case measure => simp [intOf]; omega
        · subst q2
          go_wp2_with fail
          go_roundw
          case rel => exact ⟨i + 1, by omega, rfl, by go_num, HA2.out⟩
          case measure => simp [intOf]; omega
    · have hiki : ¬ ((i : Int) < (k : Int)) := by omega
      obtain rfl : i = k := by omega
      have hA := HA.out
      have hb1 : Below L w (wr.drewN 1) := below_dr hA.bl 1
      have hLw : L ≤ wr.heap.size := Nat.le_trans (dk_lo HH.out.1) hA.bl.size
      obtain ⟨_, _, _, ebv, _, hbn, hbc⟩ := HALL.out (wr.drewN 1) hb1
      cases ebv
      obtain ⟨v1, w1, hr1, ho1, hg1⟩ := app_rows (w := wr.drewN 1) 38 5 (.int .u8 0) 1 1 Try.underlying38 info5' rfl (by decide) (by decide) (World.ownsRow_nil (wr.drewN 1) (wr.drewN 1).heap.size 5 1) (ao := vo) (m := vn) (cap := vc) (ys := bs.map B) (by simp [HH.out.2.2.2]) hbn hbc (oneB bs) (by omega) (Nat.le_refl _)
      rw [Nat.zero_add, List.nil_append] at ho1
      have hbw1 : Below (wr.drewN 1).heap.size (wr.drewN 1) w1 := hg1.below (fun q hq => by cases hq) (Nat.le_refl _)
      obtain ⟨a1, c1, hv1, _⟩ := own_slice ho1
      subst hv1
      have hby1 : By w1 (.slice a1 vn c1) bs := by
        have := own_by (v := .slice a1 vn c1) (s := bs) (w := w1) (L := (wr.drewN 1).heap.size) (by rw [HH.out.2.2.2]; exact ho1)
        exact this
      have hP := (hA.h.drewN 1).perm (tail_perm (S := haveE L (.slice ho4 i hc4) ss) (H := haveE L d.hv d.hs))
      have ehv : ({ d with x := x2, left := lf d i } : DK).hv = Value.slice ho d.hs.length hc := HVE.out
      rw [ehv] at hP
      obtain ⟨v3, w3, hr3, ⟨a3, c3, hv3⟩, hH3, hbw3⟩ := have_push hP rfl hLw (by rw [← HLN.out]; omega) hbw1 (u := .slice a1 vn c1) (bs := bs) rfl hby1 (fun q hq => ownsRow_lt ho1 hq)
      subst hv3
      rw [← HLN.out] at hr3 hH3
      have hH4 := hH3.perm (tail_perm (S := haveE L (.slice ho4 i hc4) ss) (H := haveE L (.slice a3 (hln + 1) c3) (d.hs ++ [(.slice a1 vn c1, bs)]))).symm
      have hH5 := hH4.perm box_perm
      try rw [← HLN.out] at hH5
      have HR1 : Hid (∀ ty, (Builtin.append_ #[38, 38] ty #[.slice none 0 0, .slice vo vn vc]).run Try.prog ({ wr with drawn := wr.drawn + 1 } : World) = .ok (.slice a1 vn c1) w1) := hr1
      have HR3 : Hid (∀ ty, (Builtin.append_ #[30, 30] ty #[.slice ho hln hc, .slice (some ⟨w1.heap.size, 0, none⟩) 1 1]).run Try.prog (w1.alloc (.cells #[.slice a1 vn c1] 38)) = .ok (.slice a3 (hln + 1) c3) w3) := hr3
      have d6 : wr.cell? ⟨d.kb, 6, none⟩ = some (.slice ho hln hc) := by rw [HLN.out, ← HVE.out]; exact hA.box.cell 6
      have hkb : d.kb < wr.heap.size := hA.box.lt
      have d61 : w1.cell? ⟨d.kb, 6, none⟩ = some (.slice ho hln hc) := (hbw1.cell (p := ⟨d.kb, 6, none⟩) hkb).trans d6
      have hbA : Below w1.heap.size w1 (w1.alloc (.cells #[Value.slice a1 vn c1] 38)) := (Below.refl _ _).alloc (Nat.le_refl _) _
      have d62 : (w1.alloc (.cells #[Value.slice a1 vn c1] 38)).cell? ⟨d.kb, 6, none⟩ = some (.slice ho hln hc) := (hbA.cell (p := ⟨d.kb, 6, none⟩) (Nat.lt_of_lt_of_le hkb hbw1.size)).trans d61
      have d63 : w3.cell? ⟨d.kb, 6, none⟩ = some (.slice ho hln hc) := hH5.boxB.cell 6
      have f63 : w3.frozen? ⟨d.kb, 6, none⟩ = false := hH5.boxB.frozen 6
      have hH6 := hH5.boxSet 6 (.slice a3 (hln + 1) c3)
      have HW3 : Hid (Below L w (w3.setCell ⟨d.kb, 6, none⟩ (.slice a3 (hln + 1) c3))) := (hb1.trans hbw3).trans ((setCell_chg _ _ _ _).below (hH5.lowL (k := d.kb) rfl) (fun j e => by rw [e]; exact (hH5.all _ (List.mem_cons_self ..)).2))
      have HH6 : Hid _ := hH6
      clear hA hb1 hLw hbn hbc hr1 ho1 hg1 hbw1 hby1 hP hr3 hH3 hbw3 hH4 hH5 hH6 hkb hbA
      go_wp2_with fail
      rename_i K hK
      try rw [show ∀ a : Act, a.put none undef = a from fun _ => rfl]
      refine wp_region_mix (fun wz : World => wz.cell? ⟨d.kb, 6, none⟩ = some (Value.slice ho hln hc)) (fun i => i == 6 || i == 7 || i == 8 || i == 11) 11 (by kernel_rfl) rfl (by kernel_rfl) (by kernel_rfl) (by kernel_rfl) ?_
      refine withFrP (N := 129) rfl ?_
      intro f0 F0 hff
      have ee0 : f0 0 = Value.pointer (some ⟨d.kb, 0, none⟩) := hff 0
      have ee1 : f0 1 = Value.slice vo vn vc := hff 1
      clear hff
      have HCC : (fun wz : World => wz.cell? ⟨d.kb, 6, none⟩ = some (Value.slice ho hln hc)) (({ wr with drawn := wr.drawn + 1 } : World)) := d6
      refine lyp F0 rfl HCC rfl (by omega) (wanted_none rfl) (v := Value.pointer (some ⟨d.kb, 0, none⟩)) (fun wr hwr => by simp only [execOp, (F0.eval 0 (by omega)).trans (show _ = Value.pointer (some ⟨d.kb, 0, none⟩) from by simp [upd, ee0, ee1])]; first | rfl | simp [go_sem]) fun F1 => ?_
      refine lyp F1 rfl HCC rfl (by omega) (wanted_none rfl) (v := Value.pointer (some ⟨d.kb, 0, none⟩)) (fun wr hwr => by simp only [execOp, (F1.eval 0 (by omega)).trans (show _ = Value.pointer (some ⟨d.kb, 0, none⟩) from by simp [upd, ee0, ee1])]; first | rfl | simp [go_sem]) fun F2 => ?_
      refine lyp F2 rfl HCC rfl (by omega) (wanted_none rfl) (v := Value.pointer (some ⟨d.kb, 0, none⟩)) (fun wr hwr => by simp only [execOp, (F2.eval 66 (by omega)).trans (show _ = Value.pointer (some ⟨d.kb, 0, none⟩) from by simp [upd, ee0, ee1])]; simp [go_sem]) fun F3 => ?_
      refine lyp F3 rfl HCC rfl (by omega) (wanted_none rfl) (v := Value.pointer (some ⟨d.kb, 6, none⟩)) (fun wr hwr => by simp only [execOp, (F3.eval 67 (by omega)).trans (show _ = Value.pointer (some ⟨d.kb, 0, none⟩) from by simp [upd, ee0, ee1])]; simp [go_sem]) fun F4 => ?_
      refine lyp F4 rfl HCC rfl (by omega) (wanted_none rfl) (v := Value.slice ho hln hc) (fun wr hwr => by simp only [execOp, (F4.eval 68 (by omega)).trans (show _ = Value.pointer (some ⟨d.kb, 6, none⟩) from by simp [upd, ee0, ee1])]; simp [go_sem, hwr]) fun F5 => ?_
      refine lyp F5 rfl HCC rfl (by omega) (wanted_none rfl) (v := Value.slice vo vn vc) (fun wr hwr => by simp only [execOp, (F5.eval 1 (by omega)).trans (show _ = Value.slice vo vn vc from by simp [upd, ee0, ee1])]; first | rfl | simp [go_sem]) fun F6 => ?_
      refine lep F6 rfl HCC rfl (by omega) (wanted_none rfl) (v := Value.slice a1 vn c1) (w1 := w1) (by simp only [execOp, resolve, invoke, builtin, List.map_toArray, List.map_cons, List.map_nil, (F6.eval 70 (by omega)).trans (show _ = Value.slice vo vn vc from by simp [upd, ee0, ee1])]; simp only [Act.eval, Sem.run_bind, Sem.run_pure, Result.andThen_ok, show _ = _ from HR1.out _]; try rfl) fun F7 => ?_
      have HC1 : (fun wz : World => wz.cell? ⟨d.kb, 6, none⟩ = some (Value.slice ho hln hc)) w1 := d61
      refine lep F7 rfl HC1 rfl (by omega) (wanted_none rfl) (v := Value.slice (some ⟨w1.heap.size, 0, none⟩) 1 1) (w1 := w1.alloc (.cells #[Value.slice a1 vn c1] 38)) (by simp only [execOp, List.map_toArray, List.map_cons, List.map_nil, (F7.eval 71 (by omega)).trans (show _ = Value.slice a1 vn c1 from by simp [upd, ee0, ee1])]; simp [go_sem]) fun F8 => ?_
      have HC2 : (fun wz : World => wz.cell? ⟨d.kb, 6, none⟩ = some (Value.slice ho hln hc)) (w1.alloc (.cells #[Value.slice a1 vn c1] 38)) := d62
      refine lep F8 rfl HC2 rfl (by omega) (wanted_none rfl) (v := Value.slice a3 (hln + 1) c3) (w1 := w3) (by simp only [execOp, resolve, invoke, builtin, List.map_toArray, List.map_cons, List.map_nil, (F8.eval 69 (by omega)).trans (show _ = Value.slice ho hln hc from by simp [upd, ee0, ee1]), (F8.eval 72 (by omega)).trans (show _ = Value.slice (some ⟨w1.heap.size, 0, none⟩) 1 1 from by simp [upd, ee0, ee1])]; simp only [Sem.run_bind, Sem.run_pure, Result.andThen_ok, show _ = _ from HR3.out _]; try rfl) fun F9 => ?_
      have HC3 : (fun wz : World => wz.cell? ⟨d.kb, 6, none⟩ = some (Value.slice ho hln hc)) w3 := d63
      refine lyp F9 rfl HC3 rfl (by omega) (wanted_none rfl) (v := Value.pointer (some ⟨d.kb, 0, none⟩)) (fun wr hwr => by simp only [execOp, (F9.eval 65 (by omega)).trans (show _ = Value.pointer (some ⟨d.kb, 0, none⟩) from by simp [upd, ee0, ee1])]; simp [go_sem]) fun F10 => ?_
      refine lyp F10 rfl HC3 rfl (by omega) (wanted_none rfl) (v := Value.pointer (some ⟨d.kb, 6, none⟩)) (fun wr hwr => by simp only [execOp, (F10.eval 74 (by omega)).trans (show _ = Value.pointer (some ⟨d.kb, 0, none⟩) from by simp [upd, ee0, ee1])]; simp [go_sem]) fun F11 => ?_
      refine lst rfl HC3 rfl (wanted_none rfl) (w1 := w3.setCell ⟨d.kb, 6, none⟩ (Value.slice a3 (hln + 1) c3)) (by simp only [execOp, (F11.eval 75 (by omega)).trans (show _ = Value.pointer (some ⟨d.kb, 6, none⟩) from by simp [upd, ee0, ee1]), (F11.eval 73 (by omega)).trans (show _ = Value.slice a3 (hln + 1) c3 from by simp [upd, ee0, ee1])]; simp [go_sem, d63, f63]) ?_
      refine ⟨fun h => by omega, ?_⟩
      first | refine hK _ _ ?_ | skip
      clear F0 F1 F2 F3 F4 F5 F6 F7 F8 F9 F10 F11 ee0 ee1 HCC HC1 HC2 HC3
      simp only [Act.put, List.setIfInBounds_toArray, List.set_cons_succ, List.set_cons_zero]
      clear d6 d61 d62 d63 f63 HR1 HR3
      generalize w3.setCell ⟨d.kb, 6, none⟩ (.slice a3 (hln + 1) c3) = W6 at HW3 HH6 ⊢
      have e7 : W6.cell? ⟨d.kb, 7, none⟩ = some (.int .i64 (d.next : Int)) := HH6.out.boxB.cell 7
      have g7 : W6.frozen? ⟨d.kb, 7, none⟩ = false := HH6.out.boxB.frozen 7
      have hH7 := HH6.out.boxSet 7 (.int .i64 ((d.next : Int) + (i : Int)))
      have HW7 : Hid (Below L w (W6.setCell ⟨d.kb, 7, none⟩ (.int .i64 ((d.next : Int) + (i : Int))))) := HW3.out.trans ((setCell_chg _ _ _ _).below (HH6.out.lowL (k := d.kb) rfl) (fun j e => by rw [e]; exact (HH6.out.all _ (List.mem_cons_self ..)).2))
      have HH7 : Hid _ := hH7
      clear hH7 HH6 HW3
      have HNM : Hid (∀ X : World, Calls Try.prog 12 #[.int .i64 0] X fun e w' => e = .returned (.int .i64 0) ∧ w' = X) := fun X => num_any 0 X
      go_upto_region 22 with fail
      generalize W6.setCell ⟨d.kb, 7, none⟩ (.int .i64 ((d.next : Int) + (i : Int))) = W7 at HW7 HH7 ⊢
      have hH8 := HH7.out.perm (fin_perm (S := haveE L (.slice ho4 i hc4) ss))
      obtain ⟨d8, hd8⟩ : ∃ d8 : DK, d8 = { d with x := x2, left := lf d i, hv := .slice a3 (hln + 1) c3, hs := d.hs ++ [(.slice a1 vn c1, bs)], next := d.next + i } := ⟨_, rfl⟩
      have HD8 : Hid (d8 = { d with x := x2, left := lf d i, hv := .slice a3 (hln + 1) c3, hs := d.hs ++ [(.slice a1 vn c1, bs)], next := d.next + i }) := hd8
      have HF8 : Hid (Held (datE L (.slice (some ⟨g, 0, none⟩) (vn + 2) cc, bs ++ mk2) :: d8.es L (wroteX d.x (hln + 1) d.next bs i) (y2.es L d.jb) R) W7) := by
        have h9 := hH8.tailR
        rw [hd8]
        have hcs : ({ d with x := x2, left := lf d i, hv := .slice a3 (hln + 1) c3, hs := d.hs ++ [(.slice a1 vn c1, bs)], next := d.next + i } : DK).cs = (({ d with x := x2, left := lf d i } : DK).cs.setIfInBounds 6 (.slice a3 (hln + 1) c3)).setIfInBounds 7 (.int .i64 ((d.next : Int) + (i : Int))) := by
          show deskC _ _ _ _ _ _ _ (d.next + i) _ _ = _
          unfold deskC
          rw [show ((d.next + i : Nat) : Int) = (d.next : Int) + (i : Int) by omega]
          rfl
        rw [Hid]
        unfold DK.es
        rw [hcs]
        exact h9
      clear hd8
      clear hH8 HH7
      have HBK : Hid _ := back_any W7 (lent_dat HF8.out HH.out.2.2.2) HCC.out (HALL.out W7 HW7.out) HH.out.2.2.2 (by omega)
      have HFI : Hid ((∀ W', Chg (fun k => k = g) W7 W' → Held (d8.es L (wroteX d.x (hln + 1) d.next bs i) (y2.es L d.jb) R) W' ∧ Below L w W')) := fun W' hc => ⟨Held.dropRow HF8.out hc, HW7.out.trans (hc.below (Nat.le_trans (dk_lo HH.out.1) HW7.out.size) (fun j hj => by rw [hj]; exact (ownsRow_lt (lent_dat HF8.out HH.out.2.2.2) rfl).1))⟩
      clear HF8 HW7 e7 g7
      go_wp2_with fail
      refine Calls.mono HBK.out ?_
      rintro e w9 ⟨rfl, _, hc9⟩
      have HF9 : Hid _ := HFI.out w9 hc9
      clear HBK hc9 HFI
      go_wp2_with fail
      refine Calls.mono (HNM.out _) ?_
      rintro e wo ⟨rfl, hwo⟩
      replace hwo := hwo.symm
      subst hwo
      go_wp2_with fail
      go_ret
      have hdo := HH.out.2.1
      have hwf := wroteX_arm d.x (hln + 1) d.next bs i (fun e => by have := HX.out.2.2.2 e; have := HKK.out; omega)
      obtain ⟨hy2, hx2⟩ := HYX.out
      have hkk : kS bs.length = i := by rw [HH.out.2.2.2, ← HKK.out]
      rw [← HLN.out] at hx2
      have hlv := hdo.live HX.out.1
      have h9 := HF9.out.1
      have hd8 := HD8.out
      rw [← hx2] at h9
      have e1 : d8.x = x2 := by rw [hd8]
      have e2 : d8.jb = d.jb := by rw [hd8]
      have e3 : d8.dead = false := by rw [hd8]; exact HX.out.1
      have hh : hln = d.hs.length := HLN.out
      refine ⟨rfl, d8, y2, ?_, ?_, by rw [hd8]; exact ⟨rfl, rfl, rfl, rfl, by show x2.n = d.x.n; rw [hx2]; exact hwf.2.1⟩, ?_, HF9.out.2⟩
      · rw [e1, e2, e3]
        exact h9
      · rw [hd8]
        refine ⟨?_, ?_, ?_, ?_, ?_, ?_, ?_, hdo.tb, ?_, ?_, ?_, fun _ => ⟨?_, ?_, ?_, ?_, ?_⟩⟩
        · show 1 ≤ x2.n
          rw [hx2, hwf.2.1]; exact hdo.n1
        · show x2.n ≤ 1000
          rw [hx2, hwf.2.1]; exact hdo.n2
        · show d.on = !x2.off
          rw [hx2, hwf.1]; exact hdo.eon
        · show x2.armed = true → x2.off = false ∧ lf d i = (x2.whole : Int) ∧ x2.torn = tornN d.torn
          intro ha
          rw [hx2, hwf.2.2.1] at ha
          have h3 := hdo.arm ha
          have h4 := HX.out.2.2.2 ha
          have h5 := HKK.out
          rw [hx2, hwf.1, hwf.2.2.2.1, hwf.2.2.2.2.1, if_pos ha]
          refine ⟨h3.1, ?_, h3.2.2⟩
          unfold lf
          rw [if_pos ha, h3.2.1]
          omega
        · show x2.armed = false → lf d i = -1
          intro ha
          rw [hx2, hwf.2.2.1] at ha
          unfold lf
          rw [if_neg (by rw [ha]; simp)]
        · show x2.whole ≤ _
          rw [hx2, hwf.2.2.2.2.1]
          have := hdo.wh
          split <;> omega
        · show x2.torn ≤ 512
          rw [hx2, hwf.2.2.2.1]; exact hdo.tn
        · exact ⟨a3, c3, by show Value.slice a3 (hln + 1) c3 = _; rw [List.length_append, ← hh]; rfl⟩
        · show (d.hs ++ [(Value.slice a1 vn c1, bs)]).length ≤ d.next + i
          have h6 := hdo.hl
          have h7 := kS_pos vn
          have h8 := HKK.out
          rw [List.length_append]
          show d.hs.length + 1 ≤ _
          omega
        · show d.next + i ≤ x2.n
          rw [hx2, hwf.2.1]
          have h7 := HX.out.2.2.1
          have h8 := HKK.out
          omega
        · show y2.p = d.p
          rw [hy2]; exact hlv.1
        · show y2.recs.map Prod.snd = (d.hs ++ [(Value.slice a1 vn c1, bs)]).map Prod.snd
          rw [hy2]; show (y.recs ++ [(v', bs)]).map Prod.snd = _; rw [List.map_append, List.map_append, hlv.2.1]; rfl
        · show y2.next = d.next + i
          rw [hy2]; show y.next + kS bs.length = _; rw [hlv.2.2.1, hkk]
        · show y2.fin = x2.n
          rw [hy2, hx2, hwf.2.1]; exact hlv.2.2.2.1
        · intro r hr
          rw [hy2] at hr
          rcases List.mem_append.1 hr with h3 | h3
          · exact hlv.2.2.2.2 r h3
          · rw [List.mem_singleton.1 h3]; show bs.length ≤ 8192; rw [HH.out.2.2.2]; exact h8
      · rw [e1, hx2, hwf.2.2.2.2.2, Nat.min_eq_left h8, ← HKK.out]
        omega
end Go.Proofs.Ytcnokgphioigoaa
