import Derived.Test.YtcnokgphioigoaaQA
import Derived.Test.YtcnokgphioigoaaJB
import Derived.Deep.RegionWith
import Derived.BigQuiet
namespace Go.Proofs.Ytcnokgphioigoaa
open Go.RowKit Go.PlainAid
set_option linter.unusedVariables false
set_option linter.unusedSimpArgs false
set_option maxRecDepth 100000
set_option maxHeartbeats 6400000
theorem played_armOff {σ : Type} {L sb vn vc : Nat} {KK : Keeper σ L sb} {d : DK} {y : JV} {s : σ} {R : List (Ent L)} {vo : Option Addr} (a n : Int) (w : World) (h : Held (d.es L d.x (JE L d.jb y d.dead) (kE KK s :: R)) w) (hd : DKO d y) (hsb : d.sb = sb) (hoff : d.x.off = true) :
    Calls Try.prog 45 #[.pointer (some ⟨d.kb, 0, none⟩), .agg #[.int .i64 5, .int .i64 a, .int .i64 n, .slice vo vn vc]] w (PlQ KK d s R w) := by
  obtain ⟨ob, hob⟩ : ∃ b, b = w.heap.size := ⟨_, rfl⟩
  obtain ⟨w1, hw1⟩ : ∃ X, X = w.alloc (.cells #[.int .i64 5, .int .i64 a, .int .i64 n, .slice vo vn vc] 91) := ⟨_, rfl⟩
  have hL : L ≤ w.heap.size := dk_lo h
  have hb1 : Below L w w1 := by rw [hw1]; exact (Below.refl _ _).alloc hL _
  have h1 : Held (d.es L d.x (JE L d.jb y d.dead) (boxE L ob #[.int .i64 5, .int .i64 a, .int .i64 n, .slice vo vn vc] 91 :: kE KK s :: R)) w1 := by rw [hw1, hob]; exact dk_new h
  have o0 : w1.cell? ⟨ob, 0, none⟩ = some (.int .i64 5) := (dk_ob h1).cell 0
  have o1 : w1.cell? ⟨ob, 1, none⟩ = some (.int .i64 a) := (dk_ob h1).cell 1
  have o2 : w1.cell? ⟨ob, 2, none⟩ = some (.int .i64 n) := (dk_ob h1).cell 2
  have o3 : w1.cell? ⟨ob, 3, none⟩ = some (.slice vo vn vc) := (dk_ob h1).cell 3
  have c0 : w1.cell? ⟨d.kb, 0, none⟩ = some (.pointer (some ⟨d.p, 0, none⟩)) := (dk_box h1).cell 0
  have HL : Hid (Below L w w1 ∧ DKO d y ∧ d.sb = sb) := ⟨hb1, hd, hsb⟩
  have H1 : Hid (Held (d.es L d.x (JE L d.jb y d.dead) (boxE L ob #[.int .i64 5, .int .i64 a, .int .i64 n, .slice vo vn vc] 91 :: kE KK s :: R)) w1) := h1
  have c3 : w1.cell? ⟨d.kb, 3, none⟩ = some (.bool false) := by have := (dk_box h1).cell 3; rw [this]; exact congrArg some (congrArg Value.bool (by show d.on = false; rw [hd.eon, hoff]; rfl))
  have HAR : Hid (∀ q, Calls Try.prog 22 #[.pointer (some ⟨d.p, 0, none⟩), .int .i64 a, .int .i64 n] (w1.drewN q) fun e w' => e = .returned (.tuple #[]) ∧ w' = w1.drewN q) := fun q => arm_off a n (w1.drewN q) (dk_dm (h1.drewN q)) hoff
  clear h hd hsb hb1 h1 hL o3 hoff
  go_enter Try.func45, Try.ntmps45
  go_upto_region 1 with fail
  rw [← hw1, ← hob]
  clear hw1 hob
  go_wp2_with fail
  go_region_with (go_at_call 22; refine (by first | exact HAR.out 0 | exact HAR.out 1 : Calls Try.prog 22 _ _ _).mono ?_; rintro e wz ⟨rfl, rfl⟩)
  all_goals
    go_wp2_with fail
    go_ret
    exact ⟨rfl, d, y, s, dk_drop (by first | exact H1.out.drewN 1 | exact H1.out.drewN 0 | exact H1.out), HL.out.2.1, DSame.refl d, by omega, by omega, by first | exact below_dr HL.out.1 1 | exact below_dr HL.out.1 0 | exact HL.out.1⟩
theorem played_armNeg {σ : Type} {L sb vn vc : Nat} {KK : Keeper σ L sb} {d : DK} {y : JV} {s : σ} {R : List (Ent L)} {vo : Option Addr} (a n : Int) (w : World) (h : Held (d.es L d.x (JE L d.jb y d.dead) (kE KK s :: R)) w) (hd : DKO d y) (hsb : d.sb = sb) (hoff : d.x.off = false) (ha : a < 0) (hab : a ≤ 9223372036854775807) (hn1 : -9223372036854775808 ≤ n) (hn2 : n ≤ 9223372036854775807) :
    Calls Try.prog 45 #[.pointer (some ⟨d.kb, 0, none⟩), .agg #[.int .i64 5, .int .i64 a, .int .i64 n, .slice vo vn vc]] w (PlQ KK d s R w) := by
  obtain ⟨ob, hob⟩ : ∃ b, b = w.heap.size := ⟨_, rfl⟩
  obtain ⟨w1, hw1⟩ : ∃ X, X = w.alloc (.cells #[.int .i64 5, .int .i64 a, .int .i64 n, .slice vo vn vc] 91) := ⟨_, rfl⟩
  have hL : L ≤ w.heap.size := dk_lo h
  have hb1 : Below L w w1 := by rw [hw1]; exact (Below.refl _ _).alloc hL _
  have h1 : Held (d.es L d.x (JE L d.jb y d.dead) (boxE L ob #[.int .i64 5, .int .i64 a, .int .i64 n, .slice vo vn vc] 91 :: kE KK s :: R)) w1 := by rw [hw1, hob]; exact dk_new h
  have o0 : w1.cell? ⟨ob, 0, none⟩ = some (.int .i64 5) := (dk_ob h1).cell 0
  have o1 : w1.cell? ⟨ob, 1, none⟩ = some (.int .i64 a) := (dk_ob h1).cell 1
  have o2 : w1.cell? ⟨ob, 2, none⟩ = some (.int .i64 n) := (dk_ob h1).cell 2
  have o3 : w1.cell? ⟨ob, 3, none⟩ = some (.slice vo vn vc) := (dk_ob h1).cell 3
  have c0 : w1.cell? ⟨d.kb, 0, none⟩ = some (.pointer (some ⟨d.p, 0, none⟩)) := (dk_box h1).cell 0
  have HL : Hid (Below L w w1 ∧ DKO d y ∧ d.sb = sb) := ⟨hb1, hd, hsb⟩
  have H1 : Hid (Held (d.es L d.x (JE L d.jb y d.dead) (boxE L ob #[.int .i64 5, .int .i64 a, .int .i64 n, .slice vo vn vc] 91 :: kE KK s :: R)) w1) := h1
  have c3 : w1.cell? ⟨d.kb, 3, none⟩ = some (.bool true) := by have := (dk_box h1).cell 3; rw [this]; exact congrArg some (congrArg Value.bool (by show d.on = true; rw [hd.eon, hoff]; rfl))
  have c4 : w1.cell? ⟨d.kb, 4, none⟩ = some (.int .i64 d.left) := (dk_box h1).cell 4
  have f4 : w1.frozen? ⟨d.kb, 4, none⟩ = false := (dk_box h1).frozen 4
  have h2 : Held (({ d with left := -1 } : DK).es L d.x (JE L d.jb y d.dead) (boxE L ob #[.int .i64 5, .int .i64 a, .int .i64 n, .slice vo vn vc] 91 :: kE KK s :: R)) (w1.setCell ⟨d.kb, 4, none⟩ (.int .i64 (-1))) := dk_set h1 rfl rfl rfl rfl rfl rfl rfl rfl
  have hb2 : Below L w (w1.setCell ⟨d.kb, 4, none⟩ (.int .i64 (-1))) := hb1.trans (dk_setB h1)
  have c5 : (w1.setCell ⟨d.kb, 4, none⟩ (.int .i64 (-1))).cell? ⟨d.kb, 5, none⟩ = some (.int .i64 d.torn) := (dk_box h2).cell 5
  have f5 : (w1.setCell ⟨d.kb, 4, none⟩ (.int .i64 (-1))).frozen? ⟨d.kb, 5, none⟩ = false := (dk_box h2).frozen 5
  have p2 : (w1.setCell ⟨d.kb, 4, none⟩ (.int .i64 (-1))).cell? ⟨ob, 2, none⟩ = some (.int .i64 n) := (dk_ob h2).cell 2
  have h3 : Held (({ d with left := -1, torn := n } : DK).es L d.x (JE L d.jb y d.dead) (boxE L ob #[.int .i64 5, .int .i64 a, .int .i64 n, .slice vo vn vc] 91 :: kE KK s :: R)) ((w1.setCell ⟨d.kb, 4, none⟩ (.int .i64 (-1))).setCell ⟨d.kb, 5, none⟩ (.int .i64 n)) := dk_set (d := ({ d with left := -1 } : DK)) h2 rfl rfl rfl rfl rfl rfl rfl rfl
  have hb3 : Below L w ((w1.setCell ⟨d.kb, 4, none⟩ (.int .i64 (-1))).setCell ⟨d.kb, 5, none⟩ (.int .i64 n)) := hb2.trans (dk_setB (d := ({ d with left := -1 } : DK)) h2)
  obtain ⟨wb, hwb⟩ : ∃ X, X = (w1.setCell ⟨d.kb, 4, none⟩ (.int .i64 (-1))).setCell ⟨d.kb, 5, none⟩ (.int .i64 n) := ⟨_, rfl⟩
  rw [← hwb] at h3 hb3
  have d0 : wb.cell? ⟨d.kb, 0, none⟩ = some (.pointer (some ⟨d.p, 0, none⟩)) := (dk_box h3).cell 0
  have q1 : wb.cell? ⟨ob, 1, none⟩ = some (.int .i64 a) := (dk_ob h3).cell 1
  have q2 : wb.cell? ⟨ob, 2, none⟩ = some (.int .i64 n) := (dk_ob h3).cell 2
  have HAR : Hid (∀ q, Calls Try.prog 22 #[.pointer (some ⟨d.p, 0, none⟩), .int .i64 a, .int .i64 n] (wb.drewN q) fun e w' => e = .returned (.tuple #[]) ∧ Held (({ d with left := -1, torn := n, x := d.x.arm a n } : DK).es L ({ d with left := -1, torn := n, x := d.x.arm a n } : DK).x (JE L d.jb y d.dead) (boxE L ob #[.int .i64 5, .int .i64 a, .int .i64 n, .slice vo vn vc] 91 :: kE KK s :: R)) w' ∧ Below L w w') := fun q => by
    refine (arm_on a n (wb.drewN q) (dk_dm (h3.drewN q)) hoff hab).mono ?_
    rintro e w' ⟨rfl, hD, hC⟩
    obtain ⟨h4, hb4⟩ := dk_dmSet (h3.drewN q) hD hC
    refine ⟨rfl, ?_, (below_dr hb3 q).trans hb4⟩
    have h5 := h4
    rw [dk_xi (xi := d.x) (xi' := d.x.arm a n) (by unfold DV.arm; split <;> rfl) (by unfold DV.arm; split <;> rfl)] at h5
    exact h5
  have HA : Hid (d.x.off = false ∧ a ≤ 9223372036854775807 ∧ -9223372036854775808 ≤ n ∧ n ≤ 9223372036854775807 ∧ a < 0) := ⟨hoff, hab, hn1, hn2, ha⟩
  by_cases hm : a < -1
  · have hm : a < -1 := hm
    clear h hd hsb hb1 h1 hL o3 h2 hb2 h3 hb3 hoff hab hn1 hn2 ha
    go_enter Try.func45, Try.ntmps45
    go_upto_region 1 with fail
    rw [← hw1, ← hob]
    clear hw1 hob
    go_upto_region 18 with fail
    rw [← hwb]
    clear hwb c3 c4 f4 c5 f5 p2 o0 o1 o2 c0 hm
    go_wp2_with fail
    go_region_with (go_at_call 22; refine (by first | exact HAR.out 0 | exact HAR.out 1 : Calls Try.prog 22 _ _ _).mono ?_; rintro e wz ⟨rfl, h5, hb5⟩)
    all_goals
      have HF : Hid _ := And.intro h5 hb5
      clear h5 hb5
      go_wp2_with fail
      go_ret
      have hdo := HL.out.2.1
      obtain ⟨hoff, hab, hn1, hn2, ha⟩ := HA.out
      have ex : d.x.arm a n = { d.x with armed := false, whole := 0, torn := 0 } := by unfold DV.arm; rw [if_pos ha]
      refine ⟨rfl, ({ d with left := -1, torn := n, x := d.x.arm a n } : DK), y, s, dk_drop HF.out.1, ⟨?_, ?_, ?_, ?_, ?_, ?_, ?_, ⟨hn1, hn2⟩, hdo.ehv, hdo.hl, ?_, ?_⟩, ⟨rfl, rfl, rfl, rfl, ?_⟩, ?_, by omega, HF.out.2⟩
      · show 1 ≤ (d.x.arm a n).n; rw [ex]; exact hdo.n1
      · show (d.x.arm a n).n ≤ 1000; rw [ex]; exact hdo.n2
      · show d.on = !(d.x.arm a n).off; rw [ex]; exact hdo.eon
      · show (d.x.arm a n).armed = true → (d.x.arm a n).off = false ∧ (-1 : Int) = ((d.x.arm a n).whole : Int) ∧ (d.x.arm a n).torn = tornN n
        rw [ex]
        intro e; cases e
      · show (d.x.arm a n).armed = false → (-1 : Int) = -1
        rw [ex]
        intro _; rfl
      · show (d.x.arm a n).whole ≤ 9223372036854775807
        rw [ex]
        show (0 : Nat) ≤ _; omega
      · show (d.x.arm a n).torn ≤ 512
        rw [ex]
        show (0 : Nat) ≤ _; omega
      · show d.next ≤ (d.x.arm a n).n; rw [ex]; exact hdo.le
      · show d.dead = false → y.p = d.p ∧ y.recs.map Prod.snd = d.hs.map Prod.snd ∧ y.next = d.next ∧ y.fin = (d.x.arm a n).n ∧ ∀ r ∈ y.recs, r.2.length ≤ 8192
        rw [ex]; exact hdo.live
      · show (d.x.arm a n).n = d.x.n; rw [ex]
      · show (d.x.arm a n).writes ≤ _; rw [ex]; show d.x.writes ≤ _; omega
  · obtain rfl : a = -1 := by omega
    clear h hd hsb hb1 h1 hL o3 h2 hb2 h3 hb3 hoff hab hn1 hn2 ha hm
    go_enter Try.func45, Try.ntmps45
    go_upto_region 1 with fail
    rw [← hw1, ← hob]
    clear hw1 hob
    go_upto_region 18 with fail
    rw [← hwb]
    clear hwb c3 c4 f4 c5 f5 p2 o0 o1 o2 c0
    go_wp2_with fail
    go_region_with (go_at_call 22; refine (by first | exact HAR.out 0 | exact HAR.out 1 : Calls Try.prog 22 _ _ _).mono ?_; rintro e wz ⟨rfl, h5, hb5⟩)
    all_goals
      have HF : Hid _ := And.intro h5 hb5
      clear h5 hb5
      go_wp2_with fail
      go_ret
      have hdo := HL.out.2.1
      obtain ⟨hoff, hab, hn1, hn2, ha⟩ := HA.out
      have ex : d.x.arm (-1) n = { d.x with armed := false, whole := 0, torn := 0 } := by unfold DV.arm; rw [if_pos ha]
      refine ⟨rfl, ({ d with left := -1, torn := n, x := d.x.arm (-1) n } : DK), y, s, dk_drop HF.out.1, ⟨?_, ?_, ?_, ?_, ?_, ?_, ?_, ⟨hn1, hn2⟩, hdo.ehv, hdo.hl, ?_, ?_⟩, ⟨rfl, rfl, rfl, rfl, ?_⟩, ?_, by omega, HF.out.2⟩
      · show 1 ≤ (d.x.arm (-1) n).n; rw [ex]; exact hdo.n1
      · show (d.x.arm (-1) n).n ≤ 1000; rw [ex]; exact hdo.n2
      · show d.on = !(d.x.arm (-1) n).off; rw [ex]; exact hdo.eon
      · show (d.x.arm (-1) n).armed = true → (d.x.arm (-1) n).off = false ∧ (-1 : Int) = ((d.x.arm (-1) n).whole : Int) ∧ (d.x.arm (-1) n).torn = tornN n
        rw [ex]
        intro e; cases e
      · show (d.x.arm (-1) n).armed = false → (-1 : Int) = -1
        rw [ex]
        intro _; rfl
      · show (d.x.arm (-1) n).whole ≤ 9223372036854775807
        rw [ex]
        show (0 : Nat) ≤ _; omega
      · show (d.x.arm (-1) n).torn ≤ 512
        rw [ex]
        show (0 : Nat) ≤ _; omega
      · show d.next ≤ (d.x.arm (-1) n).n; rw [ex]; exact hdo.le
      · show d.dead = false → y.p = d.p ∧ y.recs.map Prod.snd = d.hs.map Prod.snd ∧ y.next = d.next ∧ y.fin = (d.x.arm (-1) n).n ∧ ∀ r ∈ y.recs, r.2.length ≤ 8192
        rw [ex]; exact hdo.live
      · show (d.x.arm (-1) n).n = d.x.n; rw [ex]
      · show (d.x.arm (-1) n).writes ≤ _; rw [ex]; show d.x.writes ≤ _; omega
theorem played_armPos {σ : Type} {L sb vn vc : Nat} {KK : Keeper σ L sb} {d : DK} {y : JV} {s : σ} {R : List (Ent L)} {vo : Option Addr} (a n : Int) (w : World) (h : Held (d.es L d.x (JE L d.jb y d.dead) (kE KK s :: R)) w) (hd : DKO d y) (hsb : d.sb = sb) (hoff : d.x.off = false) (ha : 0 ≤ a) (hab : a ≤ 9223372036854775807) (hn1 : -9223372036854775808 ≤ n) (hn2 : n ≤ 9223372036854775807) :
    Calls Try.prog 45 #[.pointer (some ⟨d.kb, 0, none⟩), .agg #[.int .i64 5, .int .i64 a, .int .i64 n, .slice vo vn vc]] w (PlQ KK d s R w) := by
  obtain ⟨ob, hob⟩ : ∃ b, b = w.heap.size := ⟨_, rfl⟩
  obtain ⟨w1, hw1⟩ : ∃ X, X = w.alloc (.cells #[.int .i64 5, .int .i64 a, .int .i64 n, .slice vo vn vc] 91) := ⟨_, rfl⟩
  have hL : L ≤ w.heap.size := dk_lo h
  have hb1 : Below L w w1 := by rw [hw1]; exact (Below.refl _ _).alloc hL _
  have h1 : Held (d.es L d.x (JE L d.jb y d.dead) (boxE L ob #[.int .i64 5, .int .i64 a, .int .i64 n, .slice vo vn vc] 91 :: kE KK s :: R)) w1 := by rw [hw1, hob]; exact dk_new h
  have o0 : w1.cell? ⟨ob, 0, none⟩ = some (.int .i64 5) := (dk_ob h1).cell 0
  have o1 : w1.cell? ⟨ob, 1, none⟩ = some (.int .i64 a) := (dk_ob h1).cell 1
  have o2 : w1.cell? ⟨ob, 2, none⟩ = some (.int .i64 n) := (dk_ob h1).cell 2
  have o3 : w1.cell? ⟨ob, 3, none⟩ = some (.slice vo vn vc) := (dk_ob h1).cell 3
  have c0 : w1.cell? ⟨d.kb, 0, none⟩ = some (.pointer (some ⟨d.p, 0, none⟩)) := (dk_box h1).cell 0
  have HL : Hid (Below L w w1 ∧ DKO d y ∧ d.sb = sb) := ⟨hb1, hd, hsb⟩
  have H1 : Hid (Held (d.es L d.x (JE L d.jb y d.dead) (boxE L ob #[.int .i64 5, .int .i64 a, .int .i64 n, .slice vo vn vc] 91 :: kE KK s :: R)) w1) := h1
  have c3 : w1.cell? ⟨d.kb, 3, none⟩ = some (.bool true) := by have := (dk_box h1).cell 3; rw [this]; exact congrArg some (congrArg Value.bool (by show d.on = true; rw [hd.eon, hoff]; rfl))
  have c4 : w1.cell? ⟨d.kb, 4, none⟩ = some (.int .i64 d.left) := (dk_box h1).cell 4
  have f4 : w1.frozen? ⟨d.kb, 4, none⟩ = false := (dk_box h1).frozen 4
  have h2 : Held (({ d with left := a } : DK).es L d.x (JE L d.jb y d.dead) (boxE L ob #[.int .i64 5, .int .i64 a, .int .i64 n, .slice vo vn vc] 91 :: kE KK s :: R)) (w1.setCell ⟨d.kb, 4, none⟩ (.int .i64 (a))) := dk_set h1 rfl rfl rfl rfl rfl rfl rfl rfl
  have hb2 : Below L w (w1.setCell ⟨d.kb, 4, none⟩ (.int .i64 (a))) := hb1.trans (dk_setB h1)
  have c5 : (w1.setCell ⟨d.kb, 4, none⟩ (.int .i64 (a))).cell? ⟨d.kb, 5, none⟩ = some (.int .i64 d.torn) := (dk_box h2).cell 5
  have f5 : (w1.setCell ⟨d.kb, 4, none⟩ (.int .i64 (a))).frozen? ⟨d.kb, 5, none⟩ = false := (dk_box h2).frozen 5
  have p2 : (w1.setCell ⟨d.kb, 4, none⟩ (.int .i64 (a))).cell? ⟨ob, 2, none⟩ = some (.int .i64 n) := (dk_ob h2).cell 2
  have h3 : Held (({ d with left := a, torn := n } : DK).es L d.x (JE L d.jb y d.dead) (boxE L ob #[.int .i64 5, .int .i64 a, .int .i64 n, .slice vo vn vc] 91 :: kE KK s :: R)) ((w1.setCell ⟨d.kb, 4, none⟩ (.int .i64 (a))).setCell ⟨d.kb, 5, none⟩ (.int .i64 n)) := dk_set (d := ({ d with left := a } : DK)) h2 rfl rfl rfl rfl rfl rfl rfl rfl
  have hb3 : Below L w ((w1.setCell ⟨d.kb, 4, none⟩ (.int .i64 (a))).setCell ⟨d.kb, 5, none⟩ (.int .i64 n)) := hb2.trans (dk_setB (d := ({ d with left := a } : DK)) h2)
  obtain ⟨wb, hwb⟩ : ∃ X, X = (w1.setCell ⟨d.kb, 4, none⟩ (.int .i64 (a))).setCell ⟨d.kb, 5, none⟩ (.int .i64 n) := ⟨_, rfl⟩
  rw [← hwb] at h3 hb3
  have d0 : wb.cell? ⟨d.kb, 0, none⟩ = some (.pointer (some ⟨d.p, 0, none⟩)) := (dk_box h3).cell 0
  have q1 : wb.cell? ⟨ob, 1, none⟩ = some (.int .i64 a) := (dk_ob h3).cell 1
  have q2 : wb.cell? ⟨ob, 2, none⟩ = some (.int .i64 n) := (dk_ob h3).cell 2
  have HAR : Hid (∀ q, Calls Try.prog 22 #[.pointer (some ⟨d.p, 0, none⟩), .int .i64 a, .int .i64 n] (wb.drewN q) fun e w' => e = .returned (.tuple #[]) ∧ Held (({ d with left := a, torn := n, x := d.x.arm a n } : DK).es L ({ d with left := a, torn := n, x := d.x.arm a n } : DK).x (JE L d.jb y d.dead) (boxE L ob #[.int .i64 5, .int .i64 a, .int .i64 n, .slice vo vn vc] 91 :: kE KK s :: R)) w' ∧ Below L w w') := fun q => by
    refine (arm_on a n (wb.drewN q) (dk_dm (h3.drewN q)) hoff hab).mono ?_
    rintro e w' ⟨rfl, hD, hC⟩
    obtain ⟨h4, hb4⟩ := dk_dmSet (h3.drewN q) hD hC
    refine ⟨rfl, ?_, (below_dr hb3 q).trans hb4⟩
    have h5 := h4
    rw [dk_xi (xi := d.x) (xi' := d.x.arm a n) (by unfold DV.arm; split <;> rfl) (by unfold DV.arm; split <;> rfl)] at h5
    exact h5
  have HA : Hid (d.x.off = false ∧ a ≤ 9223372036854775807 ∧ -9223372036854775808 ≤ n ∧ n ≤ 9223372036854775807 ∧ 0 ≤ a) := ⟨hoff, hab, hn1, hn2, ha⟩
  have hm : ¬ a < -1 := by omega
  clear h hd hsb hb1 h1 hL o3 h2 hb2 h3 hb3 hoff hab hn1 hn2 ha
  go_enter Try.func45, Try.ntmps45
  go_upto_region 1 with fail
  rw [← hw1, ← hob]
  clear hw1 hob
  go_upto_region 18 with fail
  rw [← hwb]
  clear hwb c3 c4 f4 c5 f5 p2 o0 o1 o2 c0 hm
  go_wp2_with fail
  go_region_with (go_at_call 22; refine (by first | exact HAR.out 0 | exact HAR.out 1 : Calls Try.prog 22 _ _ _).mono ?_; rintro e wz ⟨rfl, h5, hb5⟩)
  all_goals
    have HF : Hid _ := And.intro h5 hb5
    clear h5 hb5
    go_wp2_with fail
    go_ret
    have hdo := HL.out.2.1
    obtain ⟨hoff, hab, hn1, hn2, ha⟩ := HA.out
    have ex : d.x.arm a n = { d.x with armed := true, whole := a.toNat, torn := tornN n } := by unfold DV.arm; rw [if_neg (by omega)]
    refine ⟨rfl, ({ d with left := a, torn := n, x := d.x.arm a n } : DK), y, s, dk_drop HF.out.1, ⟨?_, ?_, ?_, ?_, ?_, ?_, ?_, ⟨hn1, hn2⟩, hdo.ehv, hdo.hl, ?_, ?_⟩, ⟨rfl, rfl, rfl, rfl, ?_⟩, ?_, by omega, HF.out.2⟩
    · show 1 ≤ (d.x.arm a n).n; rw [ex]; exact hdo.n1
    · show (d.x.arm a n).n ≤ 1000; rw [ex]; exact hdo.n2
    · show d.on = !(d.x.arm a n).off; rw [ex]; exact hdo.eon
    · show (d.x.arm a n).armed = true → (d.x.arm a n).off = false ∧ (a : Int) = ((d.x.arm a n).whole : Int) ∧ (d.x.arm a n).torn = tornN n
      rw [ex]
      intro _; refine ⟨hoff, ?_, rfl⟩; show a = (a.toNat : Int); omega
    · show (d.x.arm a n).armed = false → (a : Int) = -1
      rw [ex]
      intro e; cases e
    · show (d.x.arm a n).whole ≤ 9223372036854775807
      rw [ex]
      show a.toNat ≤ _; omega
    · show (d.x.arm a n).torn ≤ 512
      rw [ex]
      show tornN n ≤ 512; unfold tornN; omega
    · show d.next ≤ (d.x.arm a n).n; rw [ex]; exact hdo.le
    · show d.dead = false → y.p = d.p ∧ y.recs.map Prod.snd = d.hs.map Prod.snd ∧ y.next = d.next ∧ y.fin = (d.x.arm a n).n ∧ ∀ r ∈ y.recs, r.2.length ≤ 8192
      rw [ex]; exact hdo.live
    · show (d.x.arm a n).n = d.x.n; rw [ex]
    · show (d.x.arm a n).writes ≤ _; rw [ex]; show d.x.writes ≤ _; omega
end Go.Proofs.Ytcnokgphioigoaa
