import Derived.Test.YtkdndfdofhnagaaDoorJF
import Derived.Test.YtkdndfdofhnagaaDoorJB
import Derived.BigRegion
namespace Go.Proofs.YtkdndfdofhnagaaDoor
open Go.RowKit Go.PlainAid
set_option linter.unusedVariables false
set_option linter.unusedSimpArgs false
def BS.ecode (b : BS) (s : LS) (n : Int) : Int := bif n % 16 == b.me then (match look (n / 16) b.L with | none => 70 | some h => s.tcode 2 h.am) else 3
def BS.hit (b : BS) (n : Int) : Hd := (look (n / 16) b.L).getD zed
def BS.eamt (b : BS) (s : LS) (n : Int) : Int := bif b.ecode s n == 0 then (b.hit n).am else 0
def BS.enext (b : BS) (s : LS) (n : Int) : BS := bif b.ecode s n == 0 then { b with L := rm (n / 16) b.L } else b
def BS.elnext (b : BS) (s : LS) (j : Nat) (n : Int) : LS := bif b.ecode s n == 0 then s.tnext 2 j (b.hit n).am else s
theorem BS.e_me (b : BS) (s : LS) (n : Int) (h : n % 16 ≠ b.me) : b.ecode s n = 3 := by
  have : (n % 16 == b.me) = false := by simpa using h
  simp [BS.ecode, this]
theorem BS.e_none (b : BS) (s : LS) (n : Int) (h : n % 16 = b.me) (hl : look (n / 16) b.L = none) : b.ecode s n = 70 := by simp [BS.ecode, h, hl]
theorem BS.e_some (b : BS) (s : LS) (n : Int) (x : Hd) (h : n % 16 = b.me) (hl : look (n / 16) b.L = some x) : b.ecode s n = s.tcode 2 x.am := by simp [BS.ecode, h, hl]
set_option maxRecDepth 100000 in
set_option maxHeartbeats 1600000 in
theorem endB_any {S : Sens} {L hb mb lb : Nat} {b : BS} {s : LS} (w : World) (hS : Sen S L w) (hB : Bk hb mb b w) (h : Blk w lb s.cs 71) (ho : s.Ok) (hL : L ≤ lb) (n : Int) (hn : IntKind.i64.wrap n = n) :
    Calls Tryd.prog 38 #[.pointer (some ⟨hb, 0, none⟩), .int .i64 n, .func (.func 39) #[.pointer (some ⟨lb, 0, none⟩)] #[]] w fun r w' => r = .returned (.tuple #[.int .i64 (b.eamt s n), .int .i64 (b.ecode s n)]) ∧ Bk hb mb (b.enext s n) w' ∧ Blk w' lb (b.elnext s 1 n).cs 71 ∧ Chg (fun k => k = mb ∨ k = lb) w w' := by
  have hLw : L ≤ w.heap.size := Nat.le_of_lt (Nat.lt_of_le_of_lt hL h.lt)
  have hpl := placeOf_any n w hn
  have hne : lb ≠ mb := h.ne_m hB.map
  have hne2 : lb ≠ hb := h.ne_t hB.blk (by decide)
  by_cases hme : n % 16 = b.me
  · cases hq : look (n / 16) b.L with
    | none =>
      have ec := b.e_none s n hme hq
      rw [show b.eamt s n = 0 by simp [BS.eamt, ec], show b.enext s n = b by simp [BS.enext, ec], show b.elnext s 1 n = s by simp [BS.elnext, ec], ec]
      rw [hme] at hpl
      clear hn
      generalize n / 16 = kk at *
      clear hme ec
      go_enter Tryd.func38, Tryd.ntmps38
      go_wp2_with fail
      refine hpl.mono ?_
      rintro e w1 ⟨rfl, hb1⟩
      have hB1 := hB.keep (Chg.ofBelow (fun _ => False) hb1) (by simp) (by simp)
      have h1 := h.below hb1 h.lt
      have hS1 := hS.below (hb1.mono hLw)
      have hLw1 := Nat.le_trans hLw hb1.size
      clear hpl hB h hS
      unfold keyV
      have hgr : Below w1.heap.size w1 (w1.alloc (.cells #[.int .i64 b.me, .int .i64 kk] 78)) := by go_grown
      have hB2 := hB1.keep (Chg.ofBelow (fun _ => False) hgr) (by simp) (by simp)
      have hlt2 := hB2.map.lt
      have hlb := hB2.blk.lt
      have c0 := hB2.c0
      have c3 := hB2.c3
      have hP : Blk (w1.alloc (.cells #[.int .i64 b.me, .int .i64 kk] 78)) w1.heap.size #[.int .i64 b.me, .int .i64 kk] 78 := heap_alloc_new w1 _
      have hszX : (w1.alloc (.cells #[.int .i64 b.me, .int .i64 kk] 78)).heap.size = w1.heap.size + 1 := World.size_alloc _ _
      have HL : Hid _ := h1.below hgr h1.lt
      have HS : Hid _ := hS1.below (hgr.mono hLw1)
      have HLX : Hid _ := Nat.le_trans hLw1 hgr.size
      have HBB : Hid _ := (Chg.ofBelow (fun _ => False) hb1).trans (Chg.ofBelow (fun _ => False) hgr) (by simp)
      clear h1 hS1 hb1 hgr hB1
      go_wp2_with fail
      have p0 : (w1.alloc (.cells #[.int .i64 b.me, .int .i64 kk] 78)).cell? ⟨w1.heap.size, 0, none⟩ = some (.int .i64 b.me) := hP.cell 0
      have p1 : (w1.alloc (.cells #[.int .i64 b.me, .int .i64 kk] 78)).cell? ⟨w1.heap.size, 1, none⟩ = some (.int .i64 kk) := hP.cell 1
      have hG : ∀ (q : Nat) (a d : Int), Below (w1.alloc (.cells #[.int .i64 b.me, .int .i64 kk] 78)).heap.size (w1.alloc (.cells #[.int .i64 b.me, .int .i64 kk] 78)) (((w1.alloc (.cells #[.int .i64 b.me, .int .i64 kk] 78)).drewN q).alloc (.cells #[.int .i64 a, .int .i64 d] 80)) := fun q a d => (below_drewN q (Below.refl _ _)).alloc (by simp) _
      have d3 : ∀ q, (((w1.alloc (.cells #[.int .i64 b.me, .int .i64 kk] 78)).drewN q).alloc (.cells #[.int .i64 0, .int .i64 0] 80)).cell? ⟨hb, 3, none⟩ = some (.map (some mb)) := fun q => ((hG q 0 0).cell (p := ⟨hb, 3, none⟩) hlb).trans c3
      have q0 : ∀ q, (((w1.alloc (.cells #[.int .i64 b.me, .int .i64 kk] 78)).drewN q).alloc (.cells #[.int .i64 0, .int .i64 0] 80)).cell? ⟨w1.heap.size, 0, none⟩ = some (.int .i64 b.me) := fun q => ((hG q 0 0).cell (p := ⟨w1.heap.size, 0, none⟩) hP.lt).trans p0
      have q1 : ∀ q, (((w1.alloc (.cells #[.int .i64 b.me, .int .i64 kk] 78)).drewN q).alloc (.cells #[.int .i64 0, .int .i64 0] 80)).cell? ⟨w1.heap.size, 1, none⟩ = some (.int .i64 kk) := fun q => ((hG q 0 0).cell (p := ⟨w1.heap.size, 1, none⟩) hP.lt).trans p1
      have lk := fun q => ((hB2.map.same (w' := (w1.alloc (.cells #[.int .i64 b.me, .int .i64 kk] 78)).drewN q) rfl).look_ok kk true)
      have lj := fun q => ((hB2.map.same ((hG q 0 0).block _ hlt2)).look_ok kk true)
      rw [hq] at lk lj
      simp only [cond_true, Option.getD_none, Option.isSome_none, zed] at lk lj
      unfold keyV holdV at lk lj
      have HB : Hid _ := hB2
      have HG : Hid _ := hG
      have HP : Hid _ := hP
      have HO : Hid _ := ho
      clear hB2 hG hP ho hlt2 hlb hszX
      go_quiet (fail)
      go_wp2_with fail
      go_region
      all_goals
        go_wp2_with fail
        go_ret2
        exact ⟨rfl, HB.out.keep (Chg.ofBelow (fun _ => False) (HG.out _ _ _)) (by simp) (by simp), Blk.below HL.out (HG.out _ _ _) (Blk.lt HL.out), HBB.out.trans (Chg.ofBelow (fun _ => False) (HG.out _ _ _)) (by simp) |>.mono (by simp)⟩
    | some x =>
      have ec := b.e_some s n x hme hq
      have hh : b.hit n = x := by simp [BS.hit, hq]
      by_cases hc : s.tcode 2 x.am = 0
      · rw [hc] at ec
        rw [show b.eamt s n = x.am by simp [BS.eamt, ec, hh], show b.enext s n = { b with L := rm (n / 16) b.L } by simp [BS.enext, ec], show b.elnext s 1 n = s.tnext 2 1 x.am by simp [BS.elnext, ec, hh], ec]
        rw [hme] at hpl
        clear hn
        generalize n / 16 = kk at *
        clear hme ec
        go_enter Tryd.func38, Tryd.ntmps38
        go_wp2_with fail
        refine hpl.mono ?_
        rintro e w1 ⟨rfl, hb1⟩
        have hB1 := hB.keep (Chg.ofBelow (fun _ => False) hb1) (by simp) (by simp)
        have h1 := h.below hb1 h.lt
        have hS1 := hS.below (hb1.mono hLw)
        have hLw1 := Nat.le_trans hLw hb1.size
        clear hpl hB h hS
        unfold keyV
        have hgr : Below w1.heap.size w1 (w1.alloc (.cells #[.int .i64 b.me, .int .i64 kk] 78)) := by go_grown
        have hB2 := hB1.keep (Chg.ofBelow (fun _ => False) hgr) (by simp) (by simp)
        have hlt2 := hB2.map.lt
        have hlb := hB2.blk.lt
        have c0 := hB2.c0
        have c3 := hB2.c3
        have hP : Blk (w1.alloc (.cells #[.int .i64 b.me, .int .i64 kk] 78)) w1.heap.size #[.int .i64 b.me, .int .i64 kk] 78 := heap_alloc_new w1 _
        have hszX : (w1.alloc (.cells #[.int .i64 b.me, .int .i64 kk] 78)).heap.size = w1.heap.size + 1 := World.size_alloc _ _
        have HL : Hid _ := h1.below hgr h1.lt
        have HS : Hid _ := hS1.below (hgr.mono hLw1)
        have HLX : Hid _ := Nat.le_trans hLw1 hgr.size
        have HBB : Hid _ := (Chg.ofBelow (fun _ => False) hb1).trans (Chg.ofBelow (fun _ => False) hgr) (by simp)
        clear h1 hS1 hb1 hgr hB1
        go_wp2_with fail
        have p0 : (w1.alloc (.cells #[.int .i64 b.me, .int .i64 kk] 78)).cell? ⟨w1.heap.size, 0, none⟩ = some (.int .i64 b.me) := hP.cell 0
        have p1 : (w1.alloc (.cells #[.int .i64 b.me, .int .i64 kk] 78)).cell? ⟨w1.heap.size, 1, none⟩ = some (.int .i64 kk) := hP.cell 1
        have hG : ∀ (q : Nat) (a d : Int), Below (w1.alloc (.cells #[.int .i64 b.me, .int .i64 kk] 78)).heap.size (w1.alloc (.cells #[.int .i64 b.me, .int .i64 kk] 78)) (((w1.alloc (.cells #[.int .i64 b.me, .int .i64 kk] 78)).drewN q).alloc (.cells #[.int .i64 a, .int .i64 d] 80)) := fun q a d => (below_drewN q (Below.refl _ _)).alloc (by simp) _
        have d3 : ∀ q, (((w1.alloc (.cells #[.int .i64 b.me, .int .i64 kk] 78)).drewN q).alloc (.cells #[.int .i64 0, .int .i64 0] 80)).cell? ⟨hb, 3, none⟩ = some (.map (some mb)) := fun q => ((hG q 0 0).cell (p := ⟨hb, 3, none⟩) hlb).trans c3
        have q0 : ∀ q, (((w1.alloc (.cells #[.int .i64 b.me, .int .i64 kk] 78)).drewN q).alloc (.cells #[.int .i64 0, .int .i64 0] 80)).cell? ⟨w1.heap.size, 0, none⟩ = some (.int .i64 b.me) := fun q => ((hG q 0 0).cell (p := ⟨w1.heap.size, 0, none⟩) hP.lt).trans p0
        have q1 : ∀ q, (((w1.alloc (.cells #[.int .i64 b.me, .int .i64 kk] 78)).drewN q).alloc (.cells #[.int .i64 0, .int .i64 0] 80)).cell? ⟨w1.heap.size, 1, none⟩ = some (.int .i64 kk) := fun q => ((hG q 0 0).cell (p := ⟨w1.heap.size, 1, none⟩) hP.lt).trans p1
        have lk := fun q => ((hB2.map.same (w' := (w1.alloc (.cells #[.int .i64 b.me, .int .i64 kk] 78)).drewN q) rfl).look_ok kk true)
        have lj := fun q => ((hB2.map.same ((hG q 0 0).block _ hlt2)).look_ok kk true)
        rw [hq] at lk lj
        simp only [cond_true, Option.getD_some, Option.isSome_some] at lk lj
        unfold keyV holdV at lk lj
        have HB : Hid _ := hB2
        have HG : Hid _ := hG
        have HP : Hid _ := hP
        have HO : Hid _ := ho
        clear hB2 hG hP ho hlt2 hlb hszX
        go_quiet (fail)
        go_wp2_with fail
        go_region
        all_goals
          go_wp2_with fail
          have hbn := burn_any (s := s) (((w1.alloc (.cells #[.int .i64 b.me, .int .i64 kk] 78)).drewN (nq + 1)).alloc (.cells #[.int .i64 x.am, .int .i64 x.du] 80)) (HS.out.below (HG.out _ _ _ |>.mono HLX.out)) (Blk.below HL.out (HG.out _ _ _) (Blk.lt HL.out)) HO.out hL x.am
          rw [hc] at hbn
          refine hbn.mono ?_
          rintro e w3 ⟨rfl, hl3, hst3⟩
          have hch3 : Chg (fun k => k = lb) (w1.alloc (.cells #[.int .i64 b.me, .int .i64 kk] 78)) w3 := (Chg.ofBelow (fun k => k = lb) (HG.out _ _ _)).trans (Chg.ofStq hst3) (by simp)
          have hB3 : Bk hb mb b w3 := HB.out.keep hch3 (fun e => hne2 e.symm) (fun e => hne e.symm)
          have hP3 : Blk w3 w1.heap.size #[.int .i64 b.me, .int .i64 kk] 78 := hch3.blk HP.out (fun e => Blk.ne_t HP.out HL.out (by decide) e)
          have hD3 : Blk w3 (w1.heap.size + 1) #[.int .i64 x.am, .int .i64 x.du] 80 := hst3.blk (by have := heap_alloc_new ((w1.alloc (.cells #[.int .i64 b.me, .int .i64 kk] 78)).drewN (nq + 1)) (.cells #[.int .i64 x.am, .int .i64 x.du] 80); rw [show ((w1.alloc (.cells #[.int .i64 b.me, .int .i64 kk] 78)).drewN (nq + 1)).heap.size = w1.heap.size + 1 from World.size_alloc _ _] at this; exact this) (fun e => by have h1 := Blk.lt HL.out; rw [World.size_alloc] at h1; omega)
          obtain ⟨w4, hd, hm4, hst4, hsz4⟩ := (hB3.map.same (w' := w3.drew) rfl).del kk
          unfold keyV at hd
          have c3' := hB3.c3
          have p0' : w3.cell? ⟨w1.heap.size, 0, none⟩ = some (.int .i64 b.me) := hP3.cell 0
          have p1' : w3.cell? ⟨w1.heap.size, 1, none⟩ = some (.int .i64 kk) := hP3.cell 1
          have hD4 : Blk w4 (w1.heap.size + 1) #[.int .i64 x.am, .int .i64 x.du] 80 := hst4.blk hD3 (hD3.ne_m hB3.map)
          have r0 : w4.cell? ⟨w1.heap.size + 1, 0, none⟩ = some (.int .i64 x.am) := hD4.cell 0
          have HR : Hid _ := (show Bk hb mb { b with L := rm kk b.L } w4 from ⟨hst4.blk (show Blk w3.drew hb (b.cs mb) 68 from hB3.blk) hB3.ne, hm4⟩)
          have HL4 : Hid _ := (show Blk w4 lb (s.tnext 2 1 x.am).cs 71 from hst4.blk (show Blk w3.drew lb _ 71 from hl3) hne)
          have HC4 : Hid _ := ((HBB.out.mono (B := fun k => k = mb ∨ k = lb) (by simp)).trans hch3 (fun j _ h => Or.inr h)).trans (b := w3) (B := fun k => k = mb) (c := w4) ⟨hst4.os, hst4.tape, hst4.output, hst4.size, hst4.block⟩ (fun j _ h => Or.inl h)
          clear hl3 hst3 hch3 hB3 hP3 hD3 hm4 hst4 hD4 hbn
          go_wp2_with fail
          go_region
          all_goals
            go_wp2_with fail
            go_ret2
            exact ⟨rfl, HR.out, HL4.out, HC4.out⟩
      · have hcf : (s.tcode 2 x.am == 0) = false := by simpa using hc
        rw [show b.eamt s n = 0 by simp [BS.eamt, ec, hcf], show b.enext s n = b by simp [BS.enext, ec, hcf], show b.elnext s 1 n = s by simp [BS.elnext, ec, hcf], ec]
        have HTN : Hid _ := (show s.tnext 2 1 x.am = s from by simp [LS.tnext, hc])
        clear hcf
        generalize hcd : s.tcode 2 x.am = cd at *
        have HCD : Hid _ := hcd
        clear hcd
        rw [hme] at hpl
        clear hn
        generalize n / 16 = kk at *
        clear hme ec
        go_enter Tryd.func38, Tryd.ntmps38
        go_wp2_with fail
        refine hpl.mono ?_
        rintro e w1 ⟨rfl, hb1⟩
        have hB1 := hB.keep (Chg.ofBelow (fun _ => False) hb1) (by simp) (by simp)
        have h1 := h.below hb1 h.lt
        have hS1 := hS.below (hb1.mono hLw)
        have hLw1 := Nat.le_trans hLw hb1.size
        clear hpl hB h hS
        unfold keyV
        have hgr : Below w1.heap.size w1 (w1.alloc (.cells #[.int .i64 b.me, .int .i64 kk] 78)) := by go_grown
        have hB2 := hB1.keep (Chg.ofBelow (fun _ => False) hgr) (by simp) (by simp)
        have hlt2 := hB2.map.lt
        have hlb := hB2.blk.lt
        have c0 := hB2.c0
        have c3 := hB2.c3
        have hP : Blk (w1.alloc (.cells #[.int .i64 b.me, .int .i64 kk] 78)) w1.heap.size #[.int .i64 b.me, .int .i64 kk] 78 := heap_alloc_new w1 _
        have hszX : (w1.alloc (.cells #[.int .i64 b.me, .int .i64 kk] 78)).heap.size = w1.heap.size + 1 := World.size_alloc _ _
        have HL : Hid _ := h1.below hgr h1.lt
        have HS : Hid _ := hS1.below (hgr.mono hLw1)
        have HLX : Hid _ := Nat.le_trans hLw1 hgr.size
        have HBB : Hid _ := (Chg.ofBelow (fun _ => False) hb1).trans (Chg.ofBelow (fun _ => False) hgr) (by simp)
        clear h1 hS1 hb1 hgr hB1
        go_wp2_with fail
        have p0 : (w1.alloc (.cells #[.int .i64 b.me, .int .i64 kk] 78)).cell? ⟨w1.heap.size, 0, none⟩ = some (.int .i64 b.me) := hP.cell 0
        have p1 : (w1.alloc (.cells #[.int .i64 b.me, .int .i64 kk] 78)).cell? ⟨w1.heap.size, 1, none⟩ = some (.int .i64 kk) := hP.cell 1
        have hG : ∀ (q : Nat) (a d : Int), Below (w1.alloc (.cells #[.int .i64 b.me, .int .i64 kk] 78)).heap.size (w1.alloc (.cells #[.int .i64 b.me, .int .i64 kk] 78)) (((w1.alloc (.cells #[.int .i64 b.me, .int .i64 kk] 78)).drewN q).alloc (.cells #[.int .i64 a, .int .i64 d] 80)) := fun q a d => (below_drewN q (Below.refl _ _)).alloc (by simp) _
        have d3 : ∀ q, (((w1.alloc (.cells #[.int .i64 b.me, .int .i64 kk] 78)).drewN q).alloc (.cells #[.int .i64 0, .int .i64 0] 80)).cell? ⟨hb, 3, none⟩ = some (.map (some mb)) := fun q => ((hG q 0 0).cell (p := ⟨hb, 3, none⟩) hlb).trans c3
        have q0 : ∀ q, (((w1.alloc (.cells #[.int .i64 b.me, .int .i64 kk] 78)).drewN q).alloc (.cells #[.int .i64 0, .int .i64 0] 80)).cell? ⟨w1.heap.size, 0, none⟩ = some (.int .i64 b.me) := fun q => ((hG q 0 0).cell (p := ⟨w1.heap.size, 0, none⟩) hP.lt).trans p0
        have q1 : ∀ q, (((w1.alloc (.cells #[.int .i64 b.me, .int .i64 kk] 78)).drewN q).alloc (.cells #[.int .i64 0, .int .i64 0] 80)).cell? ⟨w1.heap.size, 1, none⟩ = some (.int .i64 kk) := fun q => ((hG q 0 0).cell (p := ⟨w1.heap.size, 1, none⟩) hP.lt).trans p1
        have lk := fun q => ((hB2.map.same (w' := (w1.alloc (.cells #[.int .i64 b.me, .int .i64 kk] 78)).drewN q) rfl).look_ok kk true)
        have lj := fun q => ((hB2.map.same ((hG q 0 0).block _ hlt2)).look_ok kk true)
        rw [hq] at lk lj
        simp only [cond_true, Option.getD_some, Option.isSome_some] at lk lj
        unfold keyV holdV at lk lj
        have HB : Hid _ := hB2
        have HG : Hid _ := hG
        have HP : Hid _ := hP
        have HO : Hid _ := ho
        clear hB2 hG hP ho hlt2 hlb hszX
        go_quiet (fail)
        go_wp2_with fail
        go_region
        all_goals
          go_wp2_with fail
          have hbn := burn_any (s := s) (((w1.alloc (.cells #[.int .i64 b.me, .int .i64 kk] 78)).drewN (nq + 1)).alloc (.cells #[.int .i64 x.am, .int .i64 x.du] 80)) (HS.out.below (HG.out _ _ _ |>.mono HLX.out)) (Blk.below HL.out (HG.out _ _ _) (Blk.lt HL.out)) HO.out hL x.am
          rw [HTN.out, HCD.out] at hbn
          refine hbn.mono ?_
          rintro e w3 ⟨rfl, hl3, hst3⟩
          have hch3 : Chg (fun k => k = lb) (w1.alloc (.cells #[.int .i64 b.me, .int .i64 kk] 78)) w3 := (Chg.ofBelow (fun k => k = lb) (HG.out _ _ _)).trans (Chg.ofStq hst3) (by simp)
          have HB3 : Hid _ := HB.out.keep hch3 (fun e => hne2 e.symm) (fun e => hne e.symm)
          have HL3 : Hid _ := hl3
          have HC3 : Hid _ := (HBB.out.mono (B := fun k => k = mb ∨ k = lb) (by simp)).trans hch3 (fun j _ h => Or.inr h)
          clear hl3 hst3 hch3 hbn
          go_wp2_with fail
          go_ret2
          exact ⟨rfl, HB3.out, HL3.out, HC3.out⟩
  · have ec := b.e_me s n hme
    rw [show b.eamt s n = 0 by simp [BS.eamt, ec], show b.enext s n = b by simp [BS.enext, ec], show b.elnext s 1 n = s by simp [BS.elnext, ec], ec]
    clear hn
    generalize n / 16 = kk at *
    clear ec
    generalize n % 16 = rr at *
    go_enter Tryd.func38, Tryd.ntmps38
    go_wp2_with fail
    refine hpl.mono ?_
    rintro e w1 ⟨rfl, hb1⟩
    have hB1 := hB.keep (Chg.ofBelow (fun _ => False) hb1) (by simp) (by simp)
    have h1 := h.below hb1 h.lt
    unfold keyV
    have hgr : Below w1.heap.size w1 (w1.alloc (.cells #[.int .i64 rr, .int .i64 kk] 78)) := by go_grown
    have hB2 := hB1.keep (Chg.ofBelow (fun _ => False) hgr) (by simp) (by simp)
    have c0 := hB2.c0
    have HB : Hid _ := hB2
    have HL : Hid _ := h1.below hgr h1.lt
    have HBB : Hid _ := (Chg.ofBelow (fun k => k = mb ∨ k = lb) hb1).trans (Chg.ofBelow (fun _ => False) hgr) (by simp)
    clear hpl hB h hB1 h1 hb1 hgr hB2
    go_wp2_with fail
    go_quiet (fail)
    go_wp2_with fail
    go_ret2
    exact ⟨rfl, HB.out.keep (Chg.ofBelow (fun _ => False) (below_drewN _ (Below.refl _ _))) (by simp) (by simp), HL.out, HBB.out.drewN _⟩
set_option maxRecDepth 100000 in
set_option maxHeartbeats 1600000 in
theorem endF_any {S : Sens} {L hb mb lb : Nat} {b : BS} {s : LS} (w : World) (hS : Sen S L w) (hB : Bk hb mb b w) (h : Blk w lb s.cs 71) (ho : s.Ok) (hL : L ≤ lb) (n : Int) (hn : IntKind.i64.wrap n = n) :
    Calls Tryd.prog 38 #[.pointer (some ⟨hb, 0, none⟩), .int .i64 n, .func (.func 40) #[.pointer (some ⟨lb, 0, none⟩)] #[]] w fun r w' => r = .returned (.tuple #[.int .i64 (b.eamt s n), .int .i64 (b.ecode s n)]) ∧ Bk hb mb (b.enext s n) w' ∧ Blk w' lb (b.elnext s 0 n).cs 71 ∧ Chg (fun k => k = mb ∨ k = lb) w w' := by
  have hLw : L ≤ w.heap.size := Nat.le_of_lt (Nat.lt_of_le_of_lt hL h.lt)
  have hpl := placeOf_any n w hn
  have hne : lb ≠ mb := h.ne_m hB.map
  have hne2 : lb ≠ hb := h.ne_t hB.blk (by decide)
  by_cases hme : n % 16 = b.me
  · cases hq : look (n / 16) b.L with
    | none =>
      have ec := b.e_none s n hme hq
      rw [show b.eamt s n = 0 by simp [BS.eamt, ec], show b.enext s n = b by simp [BS.enext, ec], show b.elnext s 0 n = s by simp [BS.elnext, ec], ec]
      rw [hme] at hpl
      clear hn
      generalize n / 16 = kk at *
      clear hme ec
      go_enter Tryd.func38, Tryd.ntmps38
      go_wp2_with fail
      refine hpl.mono ?_
      rintro e w1 ⟨rfl, hb1⟩
      have hB1 := hB.keep (Chg.ofBelow (fun _ => False) hb1) (by simp) (by simp)
      have h1 := h.below hb1 h.lt
      have hS1 := hS.below (hb1.mono hLw)
      have hLw1 := Nat.le_trans hLw hb1.size
      clear hpl hB h hS
      unfold keyV
      have hgr : Below w1.heap.size w1 (w1.alloc (.cells #[.int .i64 b.me, .int .i64 kk] 78)) := by go_grown
      have hB2 := hB1.keep (Chg.ofBelow (fun _ => False) hgr) (by simp) (by simp)
      have hlt2 := hB2.map.lt
      have hlb := hB2.blk.lt
      have c0 := hB2.c0
      have c3 := hB2.c3
      have hP : Blk (w1.alloc (.cells #[.int .i64 b.me, .int .i64 kk] 78)) w1.heap.size #[.int .i64 b.me, .int .i64 kk] 78 := heap_alloc_new w1 _
      have hszX : (w1.alloc (.cells #[.int .i64 b.me, .int .i64 kk] 78)).heap.size = w1.heap.size + 1 := World.size_alloc _ _
      have HL : Hid _ := h1.below hgr h1.lt
      have HS : Hid _ := hS1.below (hgr.mono hLw1)
      have HLX : Hid _ := Nat.le_trans hLw1 hgr.size
      have HBB : Hid _ := (Chg.ofBelow (fun _ => False) hb1).trans (Chg.ofBelow (fun _ => False) hgr) (by simp)
      clear h1 hS1 hb1 hgr hB1
      go_wp2_with fail
      have p0 : (w1.alloc (.cells #[.int .i64 b.me, .int .i64 kk] 78)).cell? ⟨w1.heap.size, 0, none⟩ = some (.int .i64 b.me) := hP.cell 0
      have p1 : (w1.alloc (.cells #[.int .i64 b.me, .int .i64 kk] 78)).cell? ⟨w1.heap.size, 1, none⟩ = some (.int .i64 kk) := hP.cell 1
      have hG : ∀ (q : Nat) (a d : Int), Below (w1.alloc (.cells #[.int .i64 b.me, .int .i64 kk] 78)).heap.size (w1.alloc (.cells #[.int .i64 b.me, .int .i64 kk] 78)) (((w1.alloc (.cells #[.int .i64 b.me, .int .i64 kk] 78)).drewN q).alloc (.cells #[.int .i64 a, .int .i64 d] 80)) := fun q a d => (below_drewN q (Below.refl _ _)).alloc (by simp) _
      have d3 : ∀ q, (((w1.alloc (.cells #[.int .i64 b.me, .int .i64 kk] 78)).drewN q).alloc (.cells #[.int .i64 0, .int .i64 0] 80)).cell? ⟨hb, 3, none⟩ = some (.map (some mb)) := fun q => ((hG q 0 0).cell (p := ⟨hb, 3, none⟩) hlb).trans c3
      have q0 : ∀ q, (((w1.alloc (.cells #[.int .i64 b.me, .int .i64 kk] 78)).drewN q).alloc (.cells #[.int .i64 0, .int .i64 0] 80)).cell? ⟨w1.heap.size, 0, none⟩ = some (.int .i64 b.me) := fun q => ((hG q 0 0).cell (p := ⟨w1.heap.size, 0, none⟩) hP.lt).trans p0
      have q1 : ∀ q, (((w1.alloc (.cells #[.int .i64 b.me, .int .i64 kk] 78)).drewN q).alloc (.cells #[.int .i64 0, .int .i64 0] 80)).cell? ⟨w1.heap.size, 1, none⟩ = some (.int .i64 kk) := fun q => ((hG q 0 0).cell (p := ⟨w1.heap.size, 1, none⟩) hP.lt).trans p1
      have lk := fun q => ((hB2.map.same (w' := (w1.alloc (.cells #[.int .i64 b.me, .int .i64 kk] 78)).drewN q) rfl).look_ok kk true)
      have lj := fun q => ((hB2.map.same ((hG q 0 0).block _ hlt2)).look_ok kk true)
      rw [hq] at lk lj
      simp only [cond_true, Option.getD_none, Option.isSome_none, zed] at lk lj
      unfold keyV holdV at lk lj
      have HB : Hid _ := hB2
      have HG : Hid _ := hG
      have HP : Hid _ := hP
      have HO : Hid _ := ho
      clear hB2 hG hP ho hlt2 hlb hszX
      go_quiet (fail)
      go_wp2_with fail
      go_region
      all_goals
        go_wp2_with fail
        go_ret2
        exact ⟨rfl, HB.out.keep (Chg.ofBelow (fun _ => False) (HG.out _ _ _)) (by simp) (by simp), Blk.below HL.out (HG.out _ _ _) (Blk.lt HL.out), HBB.out.trans (Chg.ofBelow (fun _ => False) (HG.out _ _ _)) (by simp) |>.mono (by simp)⟩
    | some x =>
      have ec := b.e_some s n x hme hq
      have hh : b.hit n = x := by simp [BS.hit, hq]
      by_cases hc : s.tcode 2 x.am = 0
      · rw [hc] at ec
        rw [show b.eamt s n = x.am by simp [BS.eamt, ec, hh], show b.enext s n = { b with L := rm (n / 16) b.L } by simp [BS.enext, ec], show b.elnext s 0 n = s.tnext 2 0 x.am by simp [BS.elnext, ec, hh], ec]
        rw [hme] at hpl
        clear hn
        generalize n / 16 = kk at *
        clear hme ec
        go_enter Tryd.func38, Tryd.ntmps38
        go_wp2_with fail
        refine hpl.mono ?_
        rintro e w1 ⟨rfl, hb1⟩
        have hB1 := hB.keep (Chg.ofBelow (fun _ => False) hb1) (by simp) (by simp)
        have h1 := h.below hb1 h.lt
        have hS1 := hS.below (hb1.mono hLw)
        have hLw1 := Nat.le_trans hLw hb1.size
        clear hpl hB h hS
        unfold keyV
        have hgr : Below w1.heap.size w1 (w1.alloc (.cells #[.int .i64 b.me, .int .i64 kk] 78)) := by go_grown
        have hB2 := hB1.keep (Chg.ofBelow (fun _ => False) hgr) (by simp) (by simp)
        have hlt2 := hB2.map.lt
        have hlb := hB2.blk.lt
        have c0 := hB2.c0
        have c3 := hB2.c3
        have hP : Blk (w1.alloc (.cells #[.int .i64 b.me, .int .i64 kk] 78)) w1.heap.size #[.int .i64 b.me, .int .i64 kk] 78 := heap_alloc_new w1 _
        have hszX : (w1.alloc (.cells #[.int .i64 b.me, .int .i64 kk] 78)).heap.size = w1.heap.size + 1 := World.size_alloc _ _
        have HL : Hid _ := h1.below hgr h1.lt
        have HS : Hid _ := hS1.below (hgr.mono hLw1)
        have HLX : Hid _ := Nat.le_trans hLw1 hgr.size
        have HBB : Hid _ := (Chg.ofBelow (fun _ => False) hb1).trans (Chg.ofBelow (fun _ => False) hgr) (by simp)
        clear h1 hS1 hb1 hgr hB1
        go_wp2_with fail
        have p0 : (w1.alloc (.cells #[.int .i64 b.me, .int .i64 kk] 78)).cell? ⟨w1.heap.size, 0, none⟩ = some (.int .i64 b.me) := hP.cell 0
        have p1 : (w1.alloc (.cells #[.int .i64 b.me, .int .i64 kk] 78)).cell? ⟨w1.heap.size, 1, none⟩ = some (.int .i64 kk) := hP.cell 1
        have hG : ∀ (q : Nat) (a d : Int), Below (w1.alloc (.cells #[.int .i64 b.me, .int .i64 kk] 78)).heap.size (w1.alloc (.cells #[.int .i64 b.me, .int .i64 kk] 78)) (((w1.alloc (.cells #[.int .i64 b.me, .int .i64 kk] 78)).drewN q).alloc (.cells #[.int .i64 a, .int .i64 d] 80)) := fun q a d => (below_drewN q (Below.refl _ _)).alloc (by simp) _
        have d3 : ∀ q, (((w1.alloc (.cells #[.int .i64 b.me, .int .i64 kk] 78)).drewN q).alloc (.cells #[.int .i64 0, .int .i64 0] 80)).cell? ⟨hb, 3, none⟩ = some (.map (some mb)) := fun q => ((hG q 0 0).cell (p := ⟨hb, 3, none⟩) hlb).trans c3
        have q0 : ∀ q, (((w1.alloc (.cells #[.int .i64 b.me, .int .i64 kk] 78)).drewN q).alloc (.cells #[.int .i64 0, .int .i64 0] 80)).cell? ⟨w1.heap.size, 0, none⟩ = some (.int .i64 b.me) := fun q => ((hG q 0 0).cell (p := ⟨w1.heap.size, 0, none⟩) hP.lt).trans p0
        have q1 : ∀ q, (((w1.alloc (.cells #[.int .i64 b.me, .int .i64 kk] 78)).drewN q).alloc (.cells #[.int .i64 0, .int .i64 0] 80)).cell? ⟨w1.heap.size, 1, none⟩ = some (.int .i64 kk) := fun q => ((hG q 0 0).cell (p := ⟨w1.heap.size, 1, none⟩) hP.lt).trans p1
        have lk := fun q => ((hB2.map.same (w' := (w1.alloc (.cells #[.int .i64 b.me, .int .i64 kk] 78)).drewN q) rfl).look_ok kk true)
        have lj := fun q => ((hB2.map.same ((hG q 0 0).block _ hlt2)).look_ok kk true)
        rw [hq] at lk lj
        simp only [cond_true, Option.getD_some, Option.isSome_some] at lk lj
        unfold keyV holdV at lk lj
        have HB : Hid _ := hB2
        have HG : Hid _ := hG
        have HP : Hid _ := hP
        have HO : Hid _ := ho
        clear hB2 hG hP ho hlt2 hlb hszX
        go_quiet (fail)
        go_wp2_with fail
        go_region
        all_goals
          go_wp2_with fail
          have hbn := free_any (s := s) (((w1.alloc (.cells #[.int .i64 b.me, .int .i64 kk] 78)).drewN (nq + 1)).alloc (.cells #[.int .i64 x.am, .int .i64 x.du] 80)) (HS.out.below (HG.out _ _ _ |>.mono HLX.out)) (Blk.below HL.out (HG.out _ _ _) (Blk.lt HL.out)) HO.out hL x.am
          rw [hc] at hbn
          refine hbn.mono ?_
          rintro e w3 ⟨rfl, hl3, hst3⟩
          have hch3 : Chg (fun k => k = lb) (w1.alloc (.cells #[.int .i64 b.me, .int .i64 kk] 78)) w3 := (Chg.ofBelow (fun k => k = lb) (HG.out _ _ _)).trans (Chg.ofStq hst3) (by simp)
          have hB3 : Bk hb mb b w3 := HB.out.keep hch3 (fun e => hne2 e.symm) (fun e => hne e.symm)
          have hP3 : Blk w3 w1.heap.size #[.int .i64 b.me, .int .i64 kk] 78 := hch3.blk HP.out (fun e => Blk.ne_t HP.out HL.out (by decide) e)
          have hD3 : Blk w3 (w1.heap.size + 1) #[.int .i64 x.am, .int .i64 x.du] 80 := hst3.blk (by have := heap_alloc_new ((w1.alloc (.cells #[.int .i64 b.me, .int .i64 kk] 78)).drewN (nq + 1)) (.cells #[.int .i64 x.am, .int .i64 x.du] 80); rw [show ((w1.alloc (.cells #[.int .i64 b.me, .int .i64 kk] 78)).drewN (nq + 1)).heap.size = w1.heap.size + 1 from World.size_alloc _ _] at this; exact this) (fun e => by have h1 := Blk.lt HL.out; rw [World.size_alloc] at h1; omega)
          obtain ⟨w4, hd, hm4, hst4, hsz4⟩ := (hB3.map.same (w' := w3.drew) rfl).del kk
          unfold keyV at hd
          have c3' := hB3.c3
          have p0' : w3.cell? ⟨w1.heap.size, 0, none⟩ = some (.int .i64 b.me) := hP3.cell 0
          have p1' : w3.cell? ⟨w1.heap.size, 1, none⟩ = some (.int .i64 kk) := hP3.cell 1
          have hD4 : Blk w4 (w1.heap.size + 1) #[.int .i64 x.am, .int .i64 x.du] 80 := hst4.blk hD3 (hD3.ne_m hB3.map)
          have r0 : w4.cell? ⟨w1.heap.size + 1, 0, none⟩ = some (.int .i64 x.am) := hD4.cell 0
          have HR : Hid _ := (show Bk hb mb { b with L := rm kk b.L } w4 from ⟨hst4.blk (show Blk w3.drew hb (b.cs mb) 68 from hB3.blk) hB3.ne, hm4⟩)
          have HL4 : Hid _ := (show Blk w4 lb (s.tnext 2 0 x.am).cs 71 from hst4.blk (show Blk w3.drew lb _ 71 from hl3) hne)
          have HC4 : Hid _ := ((HBB.out.mono (B := fun k => k = mb ∨ k = lb) (by simp)).trans hch3 (fun j _ h => Or.inr h)).trans (b := w3) (B := fun k => k = mb) (c := w4) ⟨hst4.os, hst4.tape, hst4.output, hst4.size, hst4.block⟩ (fun j _ h => Or.inl h)
          clear hl3 hst3 hch3 hB3 hP3 hD3 hm4 hst4 hD4 hbn
          go_wp2_with fail
          go_region
          all_goals
            go_wp2_with fail
            go_ret2
            exact ⟨rfl, HR.out, HL4.out, HC4.out⟩
      · have hcf : (s.tcode 2 x.am == 0) = false := by simpa using hc
        rw [show b.eamt s n = 0 by simp [BS.eamt, ec, hcf], show b.enext s n = b by simp [BS.enext, ec, hcf], show b.elnext s 0 n = s by simp [BS.elnext, ec, hcf], ec]
        have HTN : Hid _ := (show s.tnext 2 0 x.am = s from by simp [LS.tnext, hc])
        clear hcf
        generalize hcd : s.tcode 2 x.am = cd at *
        have HCD : Hid _ := hcd
        clear hcd
        rw [hme] at hpl
        clear hn
        generalize n / 16 = kk at *
        clear hme ec
        go_enter Tryd.func38, Tryd.ntmps38
        go_wp2_with fail
        refine hpl.mono ?_
        rintro e w1 ⟨rfl, hb1⟩
        have hB1 := hB.keep (Chg.ofBelow (fun _ => False) hb1) (by simp) (by simp)
        have h1 := h.below hb1 h.lt
        have hS1 := hS.below (hb1.mono hLw)
        have hLw1 := Nat.le_trans hLw hb1.size
        clear hpl hB h hS
        unfold keyV
        have hgr : Below w1.heap.size w1 (w1.alloc (.cells #[.int .i64 b.me, .int .i64 kk] 78)) := by go_grown
        have hB2 := hB1.keep (Chg.ofBelow (fun _ => False) hgr) (by simp) (by simp)
        have hlt2 := hB2.map.lt
        have hlb := hB2.blk.lt
        have c0 := hB2.c0
        have c3 := hB2.c3
        have hP : Blk (w1.alloc (.cells #[.int .i64 b.me, .int .i64 kk] 78)) w1.heap.size #[.int .i64 b.me, .int .i64 kk] 78 := heap_alloc_new w1 _
        have hszX : (w1.alloc (.cells #[.int .i64 b.me, .int .i64 kk] 78)).heap.size = w1.heap.size + 1 := World.size_alloc _ _
        have HL : Hid _ := h1.below hgr h1.lt
        have HS : Hid _ := hS1.below (hgr.mono hLw1)
        have HLX : Hid _ := Nat.le_trans hLw1 hgr.size
        have HBB : Hid _ := (Chg.ofBelow (fun _ => False) hb1).trans (Chg.ofBelow (fun _ => False) hgr) (by simp)
        clear h1 hS1 hb1 hgr hB1
        go_wp2_with fail
        have p0 : (w1.alloc (.cells #[.int .i64 b.me, .int .i64 kk] 78)).cell? ⟨w1.heap.size, 0, none⟩ = some (.int .i64 b.me) := hP.cell 0
        have p1 : (w1.alloc (.cells #[.int .i64 b.me, .int .i64 kk] 78)).cell? ⟨w1.heap.size, 1, none⟩ = some (.int .i64 kk) := hP.cell 1
        have hG : ∀ (q : Nat) (a d : Int), Below (w1.alloc (.cells #[.int .i64 b.me, .int .i64 kk] 78)).heap.size (w1.alloc (.cells #[.int .i64 b.me, .int .i64 kk] 78)) (((w1.alloc (.cells #[.int .i64 b.me, .int .i64 kk] 78)).drewN q).alloc (.cells #[.int .i64 a, .int .i64 d] 80)) := fun q a d => (below_drewN q (Below.refl _ _)).alloc (by simp) _
        have d3 : ∀ q, (((w1.alloc (.cells #[.int .i64 b.me, .int .i64 kk] 78)).drewN q).alloc (.cells #[.int .i64 0, .int .i64 0] 80)).cell? ⟨hb, 3, none⟩ = some (.map (some mb)) := fun q => ((hG q 0 0).cell (p := ⟨hb, 3, none⟩) hlb).trans c3
        have q0 : ∀ q, (((w1.alloc (.cells #[.int .i64 b.me, .int .i64 kk] 78)).drewN q).alloc (.cells #[.int .i64 0, .int .i64 0] 80)).cell? ⟨w1.heap.size, 0, none⟩ = some (.int .i64 b.me) := fun q => ((hG q 0 0).cell (p := ⟨w1.heap.size, 0, none⟩) hP.lt).trans p0
        have q1 : ∀ q, (((w1.alloc (.cells #[.int .i64 b.me, .int .i64 kk] 78)).drewN q).alloc (.cells #[.int .i64 0, .int .i64 0] 80)).cell? ⟨w1.heap.size, 1, none⟩ = some (.int .i64 kk) := fun q => ((hG q 0 0).cell (p := ⟨w1.heap.size, 1, none⟩) hP.lt).trans p1
        have lk := fun q => ((hB2.map.same (w' := (w1.alloc (.cells #[.int .i64 b.me, .int .i64 kk] 78)).drewN q) rfl).look_ok kk true)
        have lj := fun q => ((hB2.map.same ((hG q 0 0).block _ hlt2)).look_ok kk true)
        rw [hq] at lk lj
        simp only [cond_true, Option.getD_some, Option.isSome_some] at lk lj
        unfold keyV holdV at lk lj
        have HB : Hid _ := hB2
        have HG : Hid _ := hG
        have HP : Hid _ := hP
        have HO : Hid _ := ho
        clear hB2 hG hP ho hlt2 hlb hszX
        go_quiet (fail)
        go_wp2_with fail
        go_region
        all_goals
          go_wp2_with fail
          have hbn := free_any (s := s) (((w1.alloc (.cells #[.int .i64 b.me, .int .i64 kk] 78)).drewN (nq + 1)).alloc (.cells #[.int .i64 x.am, .int .i64 x.du] 80)) (HS.out.below (HG.out _ _ _ |>.mono HLX.out)) (Blk.below HL.out (HG.out _ _ _) (Blk.lt HL.out)) HO.out hL x.am
          rw [HTN.out, HCD.out] at hbn
          refine hbn.mono ?_
          rintro e w3 ⟨rfl, hl3, hst3⟩
          have hch3 : Chg (fun k => k = lb) (w1.alloc (.cells #[.int .i64 b.me, .int .i64 kk] 78)) w3 := (Chg.ofBelow (fun k => k = lb) (HG.out _ _ _)).trans (Chg.ofStq hst3) (by simp)
          have HB3 : Hid _ := HB.out.keep hch3 (fun e => hne2 e.symm) (fun e => hne e.symm)
          have HL3 : Hid _ := hl3
          have HC3 : Hid _ := (HBB.out.mono (B := fun k => k = mb ∨ k = lb) (by simp)).trans hch3 (fun j _ h => Or.inr h)
          clear hl3 hst3 hch3 hbn
          go_wp2_with fail
          go_ret2
          exact ⟨rfl, HB3.out, HL3.out, HC3.out⟩
  · have ec := b.e_me s n hme
    rw [show b.eamt s n = 0 by simp [BS.eamt, ec], show b.enext s n = b by simp [BS.enext, ec], show b.elnext s 0 n = s by simp [BS.elnext, ec], ec]
    clear hn
    generalize n / 16 = kk at *
    clear ec
    generalize n % 16 = rr at *
    go_enter Tryd.func38, Tryd.ntmps38
    go_wp2_with fail
    refine hpl.mono ?_
    rintro e w1 ⟨rfl, hb1⟩
    have hB1 := hB.keep (Chg.ofBelow (fun _ => False) hb1) (by simp) (by simp)
    have h1 := h.below hb1 h.lt
    unfold keyV
    have hgr : Below w1.heap.size w1 (w1.alloc (.cells #[.int .i64 rr, .int .i64 kk] 78)) := by go_grown
    have hB2 := hB1.keep (Chg.ofBelow (fun _ => False) hgr) (by simp) (by simp)
    have c0 := hB2.c0
    have HB : Hid _ := hB2
    have HL : Hid _ := h1.below hgr h1.lt
    have HBB : Hid _ := (Chg.ofBelow (fun k => k = mb ∨ k = lb) hb1).trans (Chg.ofBelow (fun _ => False) hgr) (by simp)
    clear hpl hB h hB1 h1 hb1 hgr hB2
    go_wp2_with fail
    go_quiet (fail)
    go_wp2_with fail
    go_ret2
    exact ⟨rfl, HB.out.keep (Chg.ofBelow (fun _ => False) (below_drewN _ (Below.refl _ _))) (by simp) (by simp), HL.out, HBB.out.drewN _⟩
end Go.Proofs.YtkdndfdofhnagaaDoor
