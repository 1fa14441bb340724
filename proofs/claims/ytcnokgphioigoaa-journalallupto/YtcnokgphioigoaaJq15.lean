import Derived.Test.YtcnokgphioigoaaQA
import Derived.Test.YtcnokgphioigoaaJB
import Derived.Deep.RegionWith
import Derived.BigQuiet
namespace Go.Proofs.Ytcnokgphioigoaa
open Go.RowKit Go.PlainAid
set_option linter.unusedVariables false
set_option linter.unusedSimpArgs false
set_option maxRecDepth 100000
set_option maxHeartbeats 6400000
theorem played_looks {σ : Type} {L sb vn vc : Nat} {KK : Keeper σ L sb} {d : DK} {y : JV} {s : σ} {R : List (Ent L)} {vo : Option Addr} (a n : Int) (w : World) (h : Held (d.es L d.x (JE L d.jb y d.dead) (kE KK s :: R)) w) (hd : DKO d y) (hsb : d.sb = sb) :
    Calls Try.prog 45 #[.pointer (some ⟨d.kb, 0, none⟩), .agg #[.int .i64 2, .int .i64 a, .int .i64 n, .slice vo vn vc]] w (PlQ KK d s R w) := by
  obtain ⟨ob, hob⟩ : ∃ b, b = w.heap.size := ⟨_, rfl⟩
  obtain ⟨w1, hw1⟩ : ∃ X, X = w.alloc (.cells #[.int .i64 2, .int .i64 a, .int .i64 n, .slice vo vn vc] 91) := ⟨_, rfl⟩
  have hL : L ≤ w.heap.size := dk_lo h
  have hb1 : Below L w w1 := by rw [hw1]; exact (Below.refl _ _).alloc hL _
  have h1 : Held (d.es L d.x (JE L d.jb y d.dead) (boxE L ob #[.int .i64 2, .int .i64 a, .int .i64 n, .slice vo vn vc] 91 :: kE KK s :: R)) w1 := by rw [hw1, hob]; exact dk_new h
  have o0 : w1.cell? ⟨ob, 0, none⟩ = some (.int .i64 2) := (dk_ob h1).cell 0
  have o1 : w1.cell? ⟨ob, 1, none⟩ = some (.int .i64 a) := (dk_ob h1).cell 1
  have o2 : w1.cell? ⟨ob, 2, none⟩ = some (.int .i64 n) := (dk_ob h1).cell 2
  have o3 : w1.cell? ⟨ob, 3, none⟩ = some (.slice vo vn vc) := (dk_ob h1).cell 3
  have c0 : w1.cell? ⟨d.kb, 0, none⟩ = some (.pointer (some ⟨d.p, 0, none⟩)) := (dk_box h1).cell 0
  have HL : Hid (Below L w w1 ∧ DKO d y ∧ d.sb = sb) := ⟨hb1, hd, hsb⟩
  have H1 : Hid (Held (d.es L d.x (JE L d.jb y d.dead) (boxE L ob #[.int .i64 2, .int .i64 a, .int .i64 n, .slice vo vn vc] 91 :: kE KK s :: R)) w1) := h1
  have HLK : Hid (Calls Try.prog 25 #[.pointer (some ⟨d.kb, 0, none⟩)] w1 fun e w' => e = .returned (.bool true) ∧ ∃ q, w' = w1.drewN q) := by
    cases hdd : d.dead with
    | true => rw [hdd] at h1; exact looks_deadG w1 h1 hd hdd
    | false => rw [hdd] at h1; exact looks_liveG w1 h1 hd hdd
  clear h hd hsb hb1 h1 hL o1 o2 o3 c0
  go_enter Try.func45, Try.ntmps45
  go_upto_region 1 with fail
  rw [← hw1, ← hob]
  clear hw1 hob
  go_wp2_with fail
  refine Calls.mono HLK.out ?_
  rintro e w2 ⟨rfl, q, rfl⟩
  clear HLK o0
  go_wp2_with fail
  go_ret
  exact ⟨rfl, d, y, s, dk_drop (H1.out.drewN q), HL.out.2.1, DSame.refl d, by omega, by omega, below_dr HL.out.1 q⟩
theorem played_atNo {σ : Type} {L sb vn vc : Nat} {KK : Keeper σ L sb} {d : DK} {y : JV} {s : σ} {R : List (Ent L)} {vo : Option Addr} (a n : Int) (w : World) (h : Held (d.es L d.x (JE L d.jb y d.dead) (kE KK s :: R)) w) (hd : DKO d y) (hsb : d.sb = sb) (hz : d.dead = true ∨ a < 0 ∨ (d.hs.length : Int) ≤ a) :
    Calls Try.prog 45 #[.pointer (some ⟨d.kb, 0, none⟩), .agg #[.int .i64 3, .int .i64 a, .int .i64 n, .slice vo vn vc]] w (PlQ KK d s R w) := by
  obtain ⟨ob, hob⟩ : ∃ b, b = w.heap.size := ⟨_, rfl⟩
  obtain ⟨w1, hw1⟩ : ∃ X, X = w.alloc (.cells #[.int .i64 3, .int .i64 a, .int .i64 n, .slice vo vn vc] 91) := ⟨_, rfl⟩
  have hL : L ≤ w.heap.size := dk_lo h
  have hb1 : Below L w w1 := by rw [hw1]; exact (Below.refl _ _).alloc hL _
  have h1 : Held (d.es L d.x (JE L d.jb y d.dead) (boxE L ob #[.int .i64 3, .int .i64 a, .int .i64 n, .slice vo vn vc] 91 :: kE KK s :: R)) w1 := by rw [hw1, hob]; exact dk_new h
  have o0 : w1.cell? ⟨ob, 0, none⟩ = some (.int .i64 3) := (dk_ob h1).cell 0
  have o1 : w1.cell? ⟨ob, 1, none⟩ = some (.int .i64 a) := (dk_ob h1).cell 1
  have o2 : w1.cell? ⟨ob, 2, none⟩ = some (.int .i64 n) := (dk_ob h1).cell 2
  have o3 : w1.cell? ⟨ob, 3, none⟩ = some (.slice vo vn vc) := (dk_ob h1).cell 3
  have c0 : w1.cell? ⟨d.kb, 0, none⟩ = some (.pointer (some ⟨d.p, 0, none⟩)) := (dk_box h1).cell 0
  have HL : Hid (Below L w w1 ∧ DKO d y ∧ d.sb = sb) := ⟨hb1, hd, hsb⟩
  have H1 : Hid (Held (d.es L d.x (JE L d.jb y d.dead) (boxE L ob #[.int .i64 3, .int .i64 a, .int .i64 n, .slice vo vn vc] 91 :: kE KK s :: R)) w1) := h1
  have HAT : Hid _ := at_noG a w1 h1 hd hz
  clear h hd hsb hb1 h1 hL o2 o3 c0 hz
  go_enter Try.func45, Try.ntmps45
  go_upto_region 1 with fail
  rw [← hw1, ← hob]
  clear hw1 hob
  go_wp2_with fail
  refine Calls.mono HAT.out ?_
  rintro e w2 ⟨rfl, rfl⟩
  clear HAT o0 o1
  go_wp2_with fail
  go_ret
  exact ⟨rfl, d, y, s, dk_drop H1.out, HL.out.2.1, DSame.refl d, by omega, by omega, HL.out.1⟩
theorem played_atYes {σ : Type} {L sb vn vc : Nat} {KK : Keeper σ L sb} {d : DK} {y : JV} {s : σ} {R : List (Ent L)} {vo : Option Addr} (a n : Int) (w : World) (h : Held (d.es L d.x (JE L d.jb y d.dead) (kE KK s :: R)) w) (hd : DKO d y) (hsb : d.sb = sb) (hdd : d.dead = false) (h0 : 0 ≤ a) (hi : a < (d.hs.length : Int)) (hcn : KK.cnt s ≤ 1000000000000) :
    Calls Try.prog 45 #[.pointer (some ⟨d.kb, 0, none⟩), .agg #[.int .i64 3, .int .i64 a, .int .i64 n, .slice vo vn vc]] w (PlQ KK d s R w) := by
  obtain ⟨ob, hob⟩ : ∃ b, b = w.heap.size := ⟨_, rfl⟩
  obtain ⟨w1, hw1⟩ : ∃ X, X = w.alloc (.cells #[.int .i64 3, .int .i64 a, .int .i64 n, .slice vo vn vc] 91) := ⟨_, rfl⟩
  have hL : L ≤ w.heap.size := dk_lo h
  have hb1 : Below L w w1 := by rw [hw1]; exact (Below.refl _ _).alloc hL _
  have h1 : Held (d.es L d.x (JE L d.jb y d.dead) (boxE L ob #[.int .i64 3, .int .i64 a, .int .i64 n, .slice vo vn vc] 91 :: kE KK s :: R)) w1 := by rw [hw1, hob]; exact dk_new h
  have o0 : w1.cell? ⟨ob, 0, none⟩ = some (.int .i64 3) := (dk_ob h1).cell 0
  have o1 : w1.cell? ⟨ob, 1, none⟩ = some (.int .i64 a) := (dk_ob h1).cell 1
  have o2 : w1.cell? ⟨ob, 2, none⟩ = some (.int .i64 n) := (dk_ob h1).cell 2
  have o3 : w1.cell? ⟨ob, 3, none⟩ = some (.slice vo vn vc) := (dk_ob h1).cell 3
  have c0 : w1.cell? ⟨d.kb, 0, none⟩ = some (.pointer (some ⟨d.p, 0, none⟩)) := (dk_box h1).cell 0
  have HL : Hid (Below L w w1 ∧ DKO d y ∧ d.sb = sb) := ⟨hb1, hd, hsb⟩
  have H1 : Hid (Held (d.es L d.x (JE L d.jb y d.dead) (boxE L ob #[.int .i64 3, .int .i64 a, .int .i64 n, .slice vo vn vc] 91 :: kE KK s :: R)) w1) := h1
  obtain ⟨i, rfl⟩ : ∃ i : Nat, a = (i : Int) := ⟨a.toNat, by omega⟩
  have h2 : Held (d.es L d.x (y.es L d.jb) (kE KK s :: boxE L ob #[.int .i64 3, .int .i64 (i : Int), .int .i64 n, .slice vo vn vc] 91 :: R)) w1 := by
    have := h1
    rw [hdd] at this
    exact this.perm (dk_perm (List.Perm.swap ..))
  have HAT : Hid _ := at_yesG i w1 h2 hd hsb hdd (by omega) hcn
  have HDD : Hid (d.dead = false) := hdd
  clear h hd hsb hb1 h1 hL o2 o3 c0 hdd h0 hi hcn h2
  go_enter Try.func45, Try.ntmps45
  go_upto_region 1 with fail
  rw [← hw1, ← hob]
  clear hw1 hob
  go_wp2_with fail
  refine Calls.mono HAT.out ?_
  rintro e w2 ⟨rfl, s', h3, h4, h5⟩
  have HF : Hid (Held (d.es L d.x (JE L d.jb y d.dead) (kE KK s' :: R)) w2 ∧ KK.cnt s' ≤ KK.cnt s + 18 ∧ Below L w w2) := ⟨by
    rw [HDD.out]
    exact dk_drop (h3.perm (dk_perm (List.Perm.swap ..))), h4, HL.out.1.trans h5⟩
  clear HAT o0 o1 h3 h4 h5
  go_wp2_with fail
  go_ret
  exact ⟨rfl, d, y, s', HF.out.1, HL.out.2.1, DSame.refl d, by omega, HF.out.2.1, HF.out.2.2⟩
end Go.Proofs.Ytcnokgphioigoaa
