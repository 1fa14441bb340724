import Derived.Test.YtcnokgphioigoaaJq19
import Derived.Test.YtcnokgphioigoaaJJ
import Derived.Test.YtcnokgphioigoaaJI
import Derived.Deep.RegionWith
namespace Go.Proofs.Ytcnokgphioigoaa
open Go.RowKit Go.PlainAid
set_option linter.unusedVariables false
set_option linter.unusedSimpArgs false
set_option maxRecDepth 100000
set_option maxHeartbeats 6400000
/-- A script that came in. -/
def ActIn (w : World) (lo : Option Addr) (xs : List Ak) : Prop := ∀ (i : Nat) (c : Ak), xs[i]? = some c → ∃ b o, lo = some ⟨b, o, none⟩ ∧ b < w.heap.size ∧ ∀ (j : Nat) (v : Value), c.row[j]? = some v → w.cell? ⟨b, o + i * 4 + j, none⟩ = some v
theorem ActIn.more {w w' : World} {lo : Option Addr} {xs : List Ak} (h : ActIn w lo xs) (hb : Below w.heap.size w w') : ActIn w' lo xs := fun i c hc => by
  obtain ⟨b, o, e, h1, h2⟩ := h i c hc
  exact ⟨b, o, e, Nat.lt_of_lt_of_le h1 hb.size, fun j v hv => (hb.cell (p := ⟨b, o + i * 4 + j, none⟩) h1).trans (h2 j v hv)⟩
theorem Ak.Ok.more {c : Ak} {w w' : World} (h : c.Ok w) (hb : Below w.heap.size w w') : c.Ok w' := ⟨h.a2, h.n1, h.n2, h.len, h.le, h.by'.keep hb⟩
/-- What holds ahead of each round. -/
structure PIq {σ : Type} {L : Nat} {lt : Bool} (F : KFam σ L lt) (d0 : DK) (R : List (Ent L)) (w0 : World) (i : Nat) (d : DK) (y : JV) (s : σ) (w : World) : Prop where
  h : Held (d.es L d.x (JE L d.jb y d.dead) (kE (F.K d0.sb) s :: R)) w
  ok : DKO d y
  sm : DSame d0 d
  wr : d.x.writes ≤ 17 * i
  cn : (F.K d0.sb).cnt s ≤ 18 * i
  bl : Below L w0 w
theorem PIq.play {σ : Type} {L : Nat} {lt : Bool} {F : KFam σ L lt} {d0 d : DK} {R : List (Ent L)} {w0 w : World} {i : Nat} {y : JV} {s : σ} (h : PIq F d0 R w0 i d y s w) (hi : i ≤ 1048576) (c : Ak) (hc : c.Ok w0) (hL : L = w0.heap.size) :
    Calls Try.prog 45 #[.pointer (some ⟨d0.kb, 0, none⟩), .agg c.row] w fun e w' => e = .returned (.bool true) ∧ ∃ d' y' s', PIq F d0 R w0 (i + 1) d' y' s' w' := by
  have hw := h.wr
  have hn := h.cn
  have hp := played_any c w h.h h.ok h.sm.sb (fun W hW => hc.by'.keep (by rw [← hL]; exact h.bl.trans hW)) ⟨w0, hc⟩ (by omega) (by omega)
  rw [h.sm.kb] at hp
  refine hp.mono ?_
  rintro e w' ⟨rfl, d', y', s', h1, h2, h3, h4, h5, h6⟩
  exact ⟨rfl, d', y', s', h1, h2, h.sm.trans h3, by omega, by omega, h.bl.trans h6⟩
theorem PIq.look {σ : Type} {L : Nat} {lt : Bool} {F : KFam σ L lt} {d0 d : DK} {R : List (Ent L)} {w0 w : World} {i : Nat} {y : JV} {s : σ} (h : PIq F d0 R w0 i d y s w) : Calls Try.prog 25 #[.pointer (some ⟨d0.kb, 0, none⟩)] w fun e w' => e = .returned (.bool true) ∧ ∃ q, w' = w.drewN q := by
  have h1 := h.h
  rw [← h.sm.kb]
  cases hdd : d.dead with
  | true => rw [hdd] at h1; exact looks_deadG w h1 h.ok hdd
  | false => rw [hdd] at h1; exact looks_liveG w h1 h.ok hdd
theorem plays_any {σ : Type} {lt : Bool} {v : Value} {bs : List UInt8} (z : Int) (ao : Option Addr) (nn cv : Nat) (xs : List Ak) (w : World) (F : KFam σ w.heap.size lt) (hz : -9223372036854775808 ≤ z ∧ z ≤ 9223372036854775807) (hb : By w v bs) (hxs : ActIn w ao xs) (hok : ∀ c ∈ xs, c.Ok w) (hn : xs.length = nn) (hnn : nn ≤ 1048576) :
    Calls Try.prog 29 #[.int .i64 z, v, .slice ao nn cv, .bool lt] w fun e w' => e = .returned (.bool true) ∧ Below w.heap.size w w' := by
  have HSH : Hid _ := shaped_any z w hz hb
  obtain ⟨vo, vn, vc, rfl, _⟩ := id hb
  have HX : Hid (ActIn w ao xs ∧ (∀ c ∈ xs, c.Ok w) ∧ xs.length = nn) := ⟨hxs, hok, hn⟩
  clear hb hz hxs hok hn
  go_enter Try.func29, Try.ntmps29
  go_wp2_with fail
  refine Calls.mono HSH.out ?_
  rintro e w1 ⟨n, g, im, hn1, hn2, hil, rfl, ho1, hb1⟩
  clear HSH
  obtain ⟨L, hL⟩ : ∃ L, L = w.heap.size := ⟨_, rfl⟩
  have HLL : Hid (L = w.heap.size) := hL
  rw [← hL] at F
  have h1 : Held [rowE L 5 1 (.slice (some ⟨g, 0, none⟩) (n * 512) (n * 512)) (n * 512) (im.map B)] w1 := ⟨fun e he => by rw [List.mem_singleton.1 he, hL]; exact ho1, List.pairwise_singleton ..⟩
  have hbyW : ∀ W, Held [rowE L 5 1 (.slice (some ⟨g, 0, none⟩) (n * 512) (n * 512)) (n * 512) (im.map B)] W → By W (.slice (some ⟨g, 0, none⟩) (n * 512) (n * 512)) im := fun W hW => by
    have h9 : W.ownsRow L 5 1 (.slice (some ⟨g, 0, none⟩) (n * 512) (n * 512)) (n * 512) (im.map B) := hW.all _ (List.mem_cons_self ..)
    exact own_by (L := L) (s := im) (by rw [hil]; exact h9)
  have HBG : Hid _ := begun_any w1 h1 (by rw [hL]; exact hb1.size) (fun W _ hW => hbyW W hW) hil hn1 (by omega) (Nat.le_refl _)
  have HB1 : Hid (Below L w w1) := by rw [hL]; exact hb1
  have HNI : Hid (im.length = n * 512 ∧ 1 ≤ n ∧ n ≤ 80) := ⟨hil, hn1, hn2⟩
  obtain ⟨R, hR⟩ : ∃ R : List (Ent L), R = [rowE L 5 1 (.slice (some ⟨g, 0, none⟩) (n * 512) (n * 512)) (n * 512) (im.map B)] := ⟨_, rfl⟩
  rw [← hR] at HBG
  clear ho1 hb1 h1 hbyW hL hil hn1 hn2 hR
  go_wp2_with fail
  refine Calls.mono HBG.out ?_
  rintro e w2 ⟨x, kb, p, s, sb, jb, y, iv, hv, hs, k, rfl, hx, hF, hJ, hhm, hve, hhl, hH, hb2⟩
  clear HBG
  have hle := Upto.le hF.1
  obtain ⟨d0, hd0⟩ : ∃ d0 : DK, d0 = ⟨kb, p, s, sb, jb, x, iv, true, -1, 0, hv, hs, (itR x.b k).2, false⟩ := ⟨_, rfl⟩
  have hH' : Held (d0.es L d0.x (JE L d0.jb y d0.dead) (boxE L sb #[.bool false, .slice none 0 0, .slice none 0 0, .slice none 0 0] 86 :: R)) w2 := by rw [hd0]; exact hH
  have hDO : DKO d0 y := by
    rw [hd0]
    exact ⟨by show 1 ≤ x.n; rw [hx.n]; exact HNI.out.2.1, by show x.n ≤ 1000; rw [hx.n]; have := HNI.out.2.2; omega, by show true = !x.off; rw [hx.off]; rfl, (fun e => by have e' : x.armed = true := e; rw [hx.armed] at e'; cases e'), fun _ => rfl, by show x.whole ≤ _; rw [hx.whole]; omega, by show x.torn ≤ 512; rw [hx.torn]; omega, ⟨(by show (-9223372036854775808 : Int) ≤ 0; omega), (by show (0 : Int) ≤ 9223372036854775807; omega)⟩, hve.imp fun ao ⟨c, e⟩ => ⟨c, e⟩, by show hs.length ≤ _; rw [hhl]; exact hle.1, by show _ ≤ x.n; rw [hx.n]; exact hle.2.1, fun _ => ⟨hJ.p, hJ.recs.trans hhm.symm, hJ.next, hJ.fin, fun r hr => hle.2.2 r.2 (by rw [← hJ.recs]; exact List.mem_map_of_mem hr)⟩⟩
  have hkb : d0.kb = kb := by rw [hd0]
  have hsb : d0.sb = sb := by rw [hd0]
  have hwr0 : d0.x.writes = 0 := by rw [hd0]; exact hx.writes
  have c9 : w2.cell? ⟨kb, 9, none⟩ = some (.pointer (some ⟨sb, 0, none⟩)) := by rw [← hkb, ← hsb]; exact (dk_box hH').cell 9
  have h3 := hH'.perm dk_R
  have s0 : w2.cell? ⟨sb, 0, none⟩ = some (.bool false) := h3.boxB.cell 0
  have g0 : w2.frozen? ⟨sb, 0, none⟩ = false := h3.boxB.frozen 0
  have h4 : Held (boxE L sb #[.bool lt, .slice none 0 0, .slice none 0 0, .slice none 0 0] 86 :: d0.es L d0.x (JE L d0.jb y d0.dead) R) (w2.setCell ⟨sb, 0, none⟩ (.bool lt)) := h3.boxSet 0 (.bool lt)
  have hb4 : Below L w2 (w2.setCell ⟨sb, 0, none⟩ (.bool lt)) := (setCell_chg _ _ _ _).below (h3.lowL (k := sb) rfl) (fun j e => by rw [e]; exact (h3.all _ (List.mem_cons_self ..)).2)
  have h5 := Held.swap (e' := kE (F.K sb) F.s0) h4 (Chg.refl _ _) (F.inv0 sb _ h4.boxB (h4.all _ (List.mem_cons_self ..)).2) (fun k hk => Or.inl (F.bl0 sb k hk))
  have HP0 : Hid (PIq F d0 R w 0 d0 y F.s0 (w2.setCell ⟨sb, 0, none⟩ (.bool lt))) := by
    refine ⟨?_, hDO, DSame.refl d0, by rw [hwr0]; omega, by rw [F.cnt0]; omega, (HB1.out.trans hb2).trans hb4⟩
    rw [hsb]
    exact h5.perm dk_R.symm
  obtain ⟨w3, hw3⟩ : ∃ X, X = w2.setCell ⟨sb, 0, none⟩ (.bool lt) := ⟨_, rfl⟩
  rw [← hw3] at HP0
  have HKB : Hid (d0.kb = kb ∧ d0.sb = sb) := ⟨hkb, hsb⟩
  clear hx hF hJ hhm hve hhl hH hb2 hle hd0 hH' hDO hkb hsb hwr0 h3 h4 hb4 h5
  go_upto_region 5 with fail
  rw [← hw3]
  clear hw3 c9 s0 g0
  go_wp2_with fail
  go_loopw [10] (fun s10 wr => ∃ (i : Nat) (d : DK) (y : JV) (s : σ), i ≤ nn ∧ s10 = .int .i64 (i : Int) ∧ Hid (PIq F d0 R w i d y s wr)) (fun s10 _ => nn - (intOf s10).toNat)
  case atStart => exact ⟨0, _, _, _, Nat.zero_le _, rfl, HP0⟩
  case round =>
    clear HP0
    obtain ⟨i, d, y, s, hi, rfl, HI⟩ := hrel
    by_cases hlt : i < nn
    · obtain ⟨c, hc⟩ : ∃ c, xs[i]? = some c := ⟨_, List.getElem?_eq_getElem (by rw [HX.out.2.2]; exact hlt)⟩
      obtain ⟨b, o, rfl, hbw, hcell⟩ := HX.out.1 i c hc
      have hcc : ∀ (j : Nat) (v : Value), c.row[j]? = some v → wr.cell? ⟨b, o + i * 4 + j, none⟩ = some v := fun j v hv => (HI.out.bl.cell (p := ⟨b, o + i * 4 + j, none⟩) (by rw [HLL.out]; exact hbw)).trans (hcell j v hv)
      have HPL : Hid (Calls Try.prog 45 #[.pointer (some ⟨kb, 0, none⟩), .agg c.row] wr fun e w' => e = .returned (.bool true) ∧ ∃ d' y' s', PIq F d0 R w (i + 1) d' y' s' w') := by
        have := HI.out.play (by omega) c (HX.out.2.1 c (List.mem_of_getElem? hc)) HLL.out
        rw [HKB.out.1] at this
        exact this
      obtain ⟨ck, ca, cn, co, cn2, cc, cbs⟩ := c
      have a0 : wr.cell? ⟨b, o + i * 4, none⟩ = some (.int .i64 ck) := hcc 0 _ rfl
      have a1 : wr.cell? ⟨b, o + i * 4 + 1, none⟩ = some (.int .i64 ca) := hcc 1 _ rfl
      have a2 : wr.cell? ⟨b, o + i * 4 + 2, none⟩ = some (.int .i64 cn) := hcc 2 _ rfl
      have a3 : wr.cell? ⟨b, o + i * 4 + 3, none⟩ = some (.slice co cn2 cc) := hcc 3 _ rfl
      clear hcc hcell hc
      go_wp2_with fail
      refine Calls.mono HPL.out ?_
      rintro e w9 ⟨rfl, d', y', s', hI'⟩
      have HI' : Hid _ := hI'
      clear hI' HPL a0 a1 a2 a3
      go_wp2_with fail
      go_roundw
      case rel => exact ⟨i + 1, d', y', s', by omega, by go_num, HI'⟩
      case measure => simp [intOf]; omega
    · obtain rfl : i = nn := by omega
      have HLK : Hid (Calls Try.prog 25 #[.pointer (some ⟨kb, 0, none⟩)] wr fun e w' => e = .returned (.bool true) ∧ ∃ q, w' = wr.drewN q) := by
        have := HI.out.look
        rw [HKB.out.1] at this
        exact this
      go_wp2_with fail
      refine Calls.mono HLK.out ?_
      rintro e w9 ⟨rfl, q, rfl⟩
      clear HLK
      have hI9 := HI.out.h.drewN q
      have e9 : (wr.drewN q).cell? ⟨kb, 9, none⟩ = some (.pointer (some ⟨sb, 0, none⟩)) := by
        have := (dk_box hI9).cell 9
        rw [HI.out.sm.kb, HKB.out.1] at this
        rw [this]
        show some (Value.pointer (some ⟨d.sb, 0, none⟩)) = _
        rw [HI.out.sm.sb, HKB.out.2]
      have HW : Hid (Calls Try.prog 46 #[.pointer (some ⟨sb, 0, none⟩)] (wr.drewN q) fun r w' => r = .returned (.bool true) ∧ Below L w w') := by
        have hk := hI9.perm dk_R
        have h9 := (F.K d0.sb).whole (s := s) (hk.all _ (List.mem_cons_self ..)) (by have := HI.out.cn; omega)
        rw [HKB.out.2] at h9
        refine h9.mono ?_
        rintro r w' ⟨rfl, h10⟩
        refine ⟨rfl, (below_dr HI.out.bl q).trans (h10.below (dk_lo hI9) (fun j hj => ?_))⟩
        have hP := hk.all (kE (F.K d0.sb) s) (List.mem_cons_self ..)
        exact ((F.K d0.sb).lt hP (by rw [HKB.out.2]; exact hj)).1
      clear hI9
      go_wp2_with fail
      refine Calls.mono HW.out ?_
      rintro e w10 ⟨rfl, hb10⟩
      have HF : Hid _ := hb10
      clear HW hb10 e9
      go_wp2_with fail
      go_ret
      exact ⟨rfl, by rw [← HLL.out]; exact HF.out⟩
end Go.Proofs.Ytcnokgphioigoaa
