import Derived.Test.YtjojhhkbebddmaaL11
namespace Go.Proofs.Ytjojhhkbebddmaa
open Go.RowKit Go.PlainAid
set_option linter.unusedVariables false
set_option linter.unusedSimpArgs false
/-- A script that came in. -/
def ScrIn (w : World) (lo : Option Addr) (xs : List Cl) : Prop := ∀ (i : Nat) (c : Cl), xs[i]? = some c → ∃ b o, lo = some ⟨b, o, none⟩ ∧ b < w.heap.size ∧ ∀ (j : Nat) (v : Value), c.cells[j]? = some v → w.cell? ⟨b, o + i * 12 + j, none⟩ = some v
/-- What holds ahead of each round. -/
structure PI {σ : Type} {L : Nat} {lt : Bool} (F : KFam σ L lt) (kb ab p0 p1 : Nat) (w0 : World) (k : Nat) (s : σ) (A B : Sd) (w : World) : Prop where
  pa : A.pb = p0
  pb : B.pb = p1
  oa : A.ok (4 * k)
  ob : B.ok (4 * k)
  cn : (F.K kb).cnt s ≤ 36 * k
  st : AS (fun _ => False) w0 (LS F kb ab s A B) w
theorem PI.more {σ : Type} {L : Nat} {lt : Bool} {F : KFam σ L lt} {kb ab p0 p1 k : Nat} {w0 w w' : World} {s : σ} {A B : Sd} (h : PI F kb ab p0 p1 w0 k s A B w) (hb : Below w.heap.size w w') : PI F kb ab p0 p1 w0 k s A B w' := ⟨h.pa, h.pb, h.oa, h.ob, h.cn, h.st.more hb⟩
theorem PI.nx {σ : Type} {L : Nat} {lt : Bool} {F : KFam σ L lt} {kb ab p0 p1 k : Nat} {w0 w : World} {s : σ} {A B : Sd} (h : PI F kb ab p0 p1 w0 k s A B w) : PI F kb ab p0 p1 w0 (k + 1) s A B w := ⟨h.pa, h.pb, h.oa.up (by omega), h.ob.up (by omega), by have := h.cn; omega, h.st⟩
theorem PI.arr {σ : Type} {L : Nat} {lt : Bool} {F : KFam σ L lt} {kb ab p0 p1 k : Nat} {w0 w : World} {s : σ} {A B : Sd} (h : PI F kb ab p0 p1 w0 k s A B w) : w.cell? ⟨ab, 0, none⟩ = some (.pointer (some ⟨p0, 0, none⟩)) ∧ w.cell? ⟨ab, 1, none⟩ = some (.pointer (some ⟨p1, 0, none⟩)) := by
  have hb := LS.arr h.st
  rw [h.pa, h.pb] at hb
  exact ⟨hb.cell 0, hb.cell 1⟩
theorem PI.low {σ : Type} {L : Nat} {lt : Bool} {F : KFam σ L lt} {kb ab p0 p1 k : Nat} {w0 w : World} {s : σ} {A B : Sd} (h : PI F kb ab p0 p1 w0 k s A B w) : Below w0.heap.size w0 w := ⟨h.st.chg.os, h.st.chg.tape, h.st.chg.output, h.st.chg.size, fun j hj => h.st.chg.block j hj (fun e => e)⟩
theorem PI.playA {σ : Type} {L : Nat} {lt : Bool} {F : KFam σ L lt} {kb ab p0 p1 k p mb cb : Nat} {w0 w : World} {s : σ} {x : EV} {g : RG} {r : RV} {B : Sd} (c : Cl) (h : PI F kb ab p0 p1 w0 k s (.yes p mb cb x g r) B w) (hk : k ≤ 1048576) : Calls Try.prog 27 #[.pointer (some ⟨p, 0, none⟩), .agg c.cells, .pointer (some ⟨kb, 0, none⟩)] w fun e w' => e = .returned (.bool true) ∧ ∃ s' A', PI F kb ab p0 p1 w0 (k + 1) s' A' B w' := by
  have hcn := h.cn
  refine (side_play (n := 4 * k) c w h.st h.oa (by omega) (by omega)).mono ?_
  rintro e w' ⟨rfl, s', A', h1, h2, h3, h4⟩
  have hpa : A'.pb = p0 := h1.trans h.pa
  refine ⟨rfl, s', A', hpa, h.pb, h2, h.ob.up (by omega), by omega, ?_⟩
  have hp : (Sd.yes p mb cb x g r).pb = A'.pb := h.pa.trans hpa.symm
  rw [hp] at h3
  exact h3
theorem PI.playB {σ : Type} {L : Nat} {lt : Bool} {F : KFam σ L lt} {kb ab p0 p1 k p mb cb : Nat} {w0 w : World} {s : σ} {x : EV} {g : RG} {r : RV} {A : Sd} (c : Cl) (h : PI F kb ab p0 p1 w0 k s A (.yes p mb cb x g r) w) (hk : k ≤ 1048576) : Calls Try.prog 27 #[.pointer (some ⟨p, 0, none⟩), .agg c.cells, .pointer (some ⟨kb, 0, none⟩)] w fun e w' => e = .returned (.bool true) ∧ ∃ s' B', PI F kb ab p0 p1 w0 (k + 1) s' A B' w' := by
  have hcn := h.cn
  refine (side_play (n := 4 * k) c w (LS.sw h.st) h.ob (by omega) (by omega)).mono ?_
  rintro e w' ⟨rfl, s', B', h1, h2, h3, h4⟩
  have hpb : B'.pb = p1 := h1.trans h.pb
  refine ⟨rfl, s', B', h.pa, hpb, h.oa.up (by omega), h2, by omega, ?_⟩
  have hp : (Sd.yes p mb cb x g r).pb = B'.pb := h.pb.trans hpb.symm
  rw [hp] at h3
  exact LS.un h3
theorem PI.cellsA {σ : Type} {L : Nat} {lt : Bool} {F : KFam σ L lt} {kb ab p0 p1 k : Nat} {w0 w : World} {s : σ} {A B : Sd} (h : PI F kb ab p0 p1 w0 k s A B w) : w.cell? ⟨p0, 0, none⟩ = some (.pointer none) ∨ ∃ mb cb x g r, A = .yes p0 mb cb x g r ∧ w.cell? ⟨p0, 0, none⟩ = some (.pointer (some ⟨mb, 0, none⟩)) ∧ w.cell? ⟨p0, 1, none⟩ = some (.pointer (some ⟨g.rb, 0, none⟩)) := by
  have hpa := h.pa
  rcases side_cells h.st with ⟨p, rfl, h1⟩ | ⟨p, mb, cb, x, g, r, rfl, h1, h2⟩
  · obtain rfl : p = p0 := hpa
    exact .inl h1
  · obtain rfl : p = p0 := hpa
    exact .inr ⟨mb, cb, x, g, r, rfl, h1, h2⟩
theorem PI.cellsB {σ : Type} {L : Nat} {lt : Bool} {F : KFam σ L lt} {kb ab p0 p1 k : Nat} {w0 w : World} {s : σ} {A B : Sd} (h : PI F kb ab p0 p1 w0 k s A B w) : w.cell? ⟨p1, 0, none⟩ = some (.pointer none) ∨ ∃ mb cb x g r, B = .yes p1 mb cb x g r ∧ w.cell? ⟨p1, 0, none⟩ = some (.pointer (some ⟨mb, 0, none⟩)) ∧ w.cell? ⟨p1, 1, none⟩ = some (.pointer (some ⟨g.rb, 0, none⟩)) := by
  have hpb := h.pb
  rcases side_cells (LS.sw h.st) with ⟨p, rfl, h1⟩ | ⟨p, mb, cb, x, g, r, rfl, h1, h2⟩
  · obtain rfl : p = p1 := hpb
    exact .inl h1
  · obtain rfl : p = p1 := hpb
    exact .inr ⟨mb, cb, x, g, r, rfl, h1, h2⟩
theorem PI.start {σ : Type} {lt : Bool} {w0 w : World} {F : KFam σ w0.heap.size lt} {ab : Nat} {A B : Sd} (hA : AS (fun _ => False) w0 (B.L w0.heap.size ++ (A.L w0.heap.size ++ [boxE w0.heap.size ab #[.pointer (some ⟨A.pb, 0, none⟩), .pointer (some ⟨B.pb, 0, none⟩)] 70])) w) (ha : A.ok 0) (hb : B.ok 0) : PI F w.heap.size ab A.pb B.pb w0 0 F.s0 A B (w.alloc (.cells #[.bool lt, .slice none 0 0, .slice none 0 0, .slice none 0 0, .slice none 0 0, .slice none 0 0, .slice none 0 0] 76)) := by
  have hb1 : Below w.heap.size w (w.alloc (.cells #[.bool lt, .slice none 0 0, .slice none 0 0, .slice none 0 0, .slice none 0 0, .slice none 0 0, .slice none 0 0] 76)) := (Below.refl _ _).alloc (Nat.le_refl _) _
  have hB : Blk (w.alloc (.cells #[.bool lt, .slice none 0 0, .slice none 0 0, .slice none 0 0, .slice none 0 0, .slice none 0 0, .slice none 0 0] 76)) w.heap.size #[.bool lt, .slice none 0 0, .slice none 0 0, .slice none 0 0, .slice none 0 0, .slice none 0 0, .slice none 0 0] 76 := heap_alloc_new w _
  have hI := F.inv0 w.heap.size _ hB hA.chg.size
  have hn : ∀ k, (kE (F.K w.heap.size) (F.fr w.heap.size) F.s0).bl k → w.heap.size ≤ k := fun k hk => Nat.le_of_eq (F.bl0 w.heap.size k hk).symm
  generalize w.alloc (.cells #[.bool lt, .slice none 0 0, .slice none 0 0, .slice none 0 0, .slice none 0 0, .slice none 0 0, .slice none 0 0] 76) = W at *
  have h2 := AS.fresh (e := kE (F.K w.heap.size) (F.fr w.heap.size) F.s0) hA hb1 hI hn
  have hc := F.cnt0 w.heap.size
  exact { pa := rfl, pb := rfl, oa := ha.up (by omega), ob := hb.up (by omega), cn := by omega, st := LS.un h2 }
theorem pES_k {σ : Type} {L : Nat} {lt : Bool} {F : KFam σ L lt} {kb ab : Nat} {w0 w : World} {s : σ} {A B : Sd} (h : AS (fun _ => False) w0 (LS F kb ab s A B) w) : (F.K kb).Inv s w := h.get (e := kE (F.K kb) (F.fr kb) s) (by simp [LS])
set_option maxRecDepth 100000 in
set_option maxHeartbeats 12800000 in
theorem plays_any {σ : Type} {lt : Bool} (me n ot on lo hi : Int) (ao : Option Addr) (nn cv : Nat) (xs : List Cl) (w : World) (F : KFam σ w.heap.size lt) (hxs : ScrIn w ao xs) (hn : xs.length = nn) (hnn : nn ≤ 1048576) : Calls Try.prog 14 #[.int .i64 me, .int .i64 n, .int .i64 ot, .int .i64 on, .slice ao nn cv, .int .i64 lo, .int .i64 hi, .bool lt] w fun e w' => e = .returned (.bool true) ∧ Below w.heap.size w w' := by
  have HX : Hid _ := hxs
  have HN : Hid _ := hn
  clear hxs hn
  go_enter Try.func14, Try.ntmps14
  go_upto_region 2 with fail
  obtain ⟨p0, hp0⟩ : ∃ p, p = w.heap.size := ⟨_, rfl⟩
  obtain ⟨p1, hp1⟩ : ∃ p, p = w.heap.size + 1 := ⟨_, rfl⟩
  obtain ⟨ab, hab⟩ : ∃ p, p = w.heap.size + 1 + 1 := ⟨_, rfl⟩
  have hA : AS (fun _ => False) w (boxE w.heap.size p0 #[.pointer none, .pointer none] 69 :: boxE w.heap.size p1 #[.pointer none, .pointer none] 69 :: [boxE w.heap.size ab #[.pointer (some ⟨p0, 0, none⟩), .pointer (some ⟨p1, 0, none⟩)] 70]) (((w.alloc (.cells #[.pointer none, .pointer none] 69)).alloc (.cells #[.pointer none, .pointer none] 69)).alloc (.cells #[.pointer (some ⟨w.heap.size, 0, none⟩), .pointer (some ⟨w.heap.size + 1, 0, none⟩)] 70)) := by
    have h0 : AS (fun _ => False) w ([] : List (Ent w.heap.size)) w := ⟨⟨fun e he => (by cases he), List.Pairwise.nil⟩, Chg.refl _ _, fun k hk => (by obtain ⟨e, he, _⟩ := hk; cases he)⟩
    have h1 : AS (fun _ => False) w [boxE w.heap.size p0 #[.pointer none, .pointer none] 69] (w.alloc (.cells #[.pointer none, .pointer none] 69)) := h0.fresh (e := boxE w.heap.size p0 #[.pointer none, .pointer none] 69) ((Below.refl _ _).alloc (Nat.le_refl _) _) ⟨by rw [hp0]; exact heap_alloc_new w _, by omega⟩ (fun k hk => by have : k = p0 := hk; omega)
    have h2 : AS (fun _ => False) w (boxE w.heap.size p1 #[.pointer none, .pointer none] 69 :: [boxE w.heap.size p0 #[.pointer none, .pointer none] 69]) ((w.alloc (.cells #[.pointer none, .pointer none] 69)).alloc (.cells #[.pointer none, .pointer none] 69)) := h1.fresh (e := boxE w.heap.size p1 #[.pointer none, .pointer none] 69) ((Below.refl _ _).alloc (Nat.le_refl _) _) ⟨by
      have := heap_alloc_new (w.alloc (.cells #[.pointer none, .pointer none] 69)) (.cells #[.pointer none, .pointer none] 69)
      rw [World.size_alloc] at this
      rw [hp1]
      exact this, by omega⟩ (fun k hk => by have : k = p1 := hk; rw [World.size_alloc]; omega)
    have h3 := h2.fresh (e := boxE w.heap.size ab #[.pointer (some ⟨p0, 0, none⟩), .pointer (some ⟨p1, 0, none⟩)] 70) (w' := (((w.alloc (.cells #[.pointer none, .pointer none] 69)).alloc (.cells #[.pointer none, .pointer none] 69)).alloc (.cells #[.pointer (some ⟨w.heap.size, 0, none⟩), .pointer (some ⟨w.heap.size + 1, 0, none⟩)] 70))) ((Below.refl _ _).alloc (Nat.le_refl _) _) ⟨by
      have := heap_alloc_new ((w.alloc (.cells #[.pointer none, .pointer none] 69)).alloc (.cells #[.pointer none, .pointer none] 69)) (.cells #[.pointer (some ⟨w.heap.size, 0, none⟩), .pointer (some ⟨w.heap.size + 1, 0, none⟩)] 70)
      rw [World.size_alloc, World.size_alloc] at this
      rw [hab, hp0, hp1]
      exact this, by omega⟩ (fun k hk => by have : k = ab := hk; rw [World.size_alloc, World.size_alloc]; omega)
    exact h3.perm ((List.Perm.swap _ _ _).trans (((List.Perm.swap _ _ _).cons _).trans (List.Perm.swap _ _ _)))
  generalize (((w.alloc (.cells #[.pointer none, .pointer none] 69)).alloc (.cells #[.pointer none, .pointer none] 69)).alloc (.cells #[.pointer (some ⟨w.heap.size, 0, none⟩), .pointer (some ⟨w.heap.size + 1, 0, none⟩)] 70)) = W3 at *
  rw [← hab, ← hp1, ← hp0]
  have HA3 : Hid (AS (fun _ => False) w (boxE w.heap.size p0 #[.pointer none, .pointer none] 69 :: boxE w.heap.size p1 #[.pointer none, .pointer none] 69 :: [boxE w.heap.size ab #[.pointer (some ⟨p0, 0, none⟩), .pointer (some ⟨p1, 0, none⟩)] 70]) W3) := hA
  clear hA hp0 hp1 hab
  go_upto_region 4 with (first
    | (go_at_call 10; refine Calls.mono (able_any _) ?_; rintro e w4 ⟨rfl, hb4⟩; have HA4 : Hid _ := HA3.out.more hb4; have hbx := (HA4.out.get (e := boxE w.heap.size ab #[.pointer (some ⟨p0, 0, none⟩), .pointer (some ⟨p1, 0, none⟩)] 70) (by simp)).1; have x0 := hbx.cell 0; have x1 := hbx.cell 1; clear hbx HA3)
    | (go_at_call 26; have hq4 := HA4; clear hq4; refine Calls.mono (side_begin me n _ HA4.out HA4.out.chg.size) ?_; clear HA4; rintro e w5 ⟨rfl, A, hpa, hoa, hA5⟩; have HA5 : Hid _ := hA5.perm (List.perm_middle (l₁ := A.L w.heap.size) (l₂ := [boxE w.heap.size ab #[.pointer (some ⟨p0, 0, none⟩), .pointer (some ⟨p1, 0, none⟩)] 70]) (a := boxE w.heap.size p1 #[.pointer none, .pointer none] 69)); have HOA : Hid _ := hoa; have HPA : Hid _ := hpa; have hbx := (hA5.get (e := boxE w.heap.size ab #[.pointer (some ⟨p0, 0, none⟩), .pointer (some ⟨p1, 0, none⟩)] 70) (by simp)).1; have x0 := hbx.cell 0; have x1 := hbx.cell 1; clear hbx hA5 hoa hpa)
    | (go_at_call 26; refine Calls.mono (side_begin ot on _ HA5.out HA5.out.chg.size) ?_; clear HA5; rintro e w6 ⟨rfl, B, hpb, hob, hA6⟩; have HA6 : Hid _ := hA6; have HOB : Hid _ := hob; have HPB : Hid _ := hpb; clear hA6 hob hpb)
    | fail)
  clear x0 x1
  have hS : PI F w6.heap.size ab p0 p1 w 0 F.s0 A B (w6.alloc (.cells #[.bool lt, .slice none 0 0, .slice none 0 0, .slice none 0 0, .slice none 0 0, .slice none 0 0, .slice none 0 0] 76)) := by
    have h6 := HA6.out
    have e1 := HPA.out
    have e2 := HPB.out
    subst e1 e2
    exact PI.start h6 HOA.out HOB.out
  have HS : Hid _ := hS
  obtain ⟨kb, hkb⟩ : ∃ k, k = w6.heap.size := ⟨_, rfl⟩
  rw [← hkb] at HS
  clear hS HA6 HOA HOB HPA HPB
  go_wp2_with fail
  try rw [← hkb]
  clear hkb
  go_loopw [19] (fun i wr => ∃ (k : Nat) (s : σ) (A B : Sd), k ≤ nn ∧ i = .int .i64 (k : Int) ∧ Hid (PI F kb ab p0 p1 w k s A B wr)) (fun i _ => nn - (intOf i).toNat)
  case atStart => exact ⟨0, _, _, _, Nat.zero_le _, rfl, HS⟩
  case round =>
    clear HS
    obtain ⟨k, s, A, B, hk, rfl, HI⟩ := hrel
    by_cases hlt : k < nn
    · obtain ⟨c, hc⟩ : ∃ c, xs[k]? = some c := ⟨_, List.getElem?_eq_getElem (by rw [HN.out]; exact hlt)⟩
      obtain ⟨b, o, rfl, hbw, hcell⟩ := HX.out k c hc
      have hcc : ∀ (j : Nat) (v : Value), c.cells[j]? = some v → wr.cell? ⟨b, o + k * 12 + j, none⟩ = some v := fun j v hv => (World.cell?_of_block (w := w) (HI.out.low.block b hbw)).trans (hcell j v hv)
      obtain ⟨x0, x1⟩ := HI.out.arr
      have HCC : Hid _ := hcc
      obtain ⟨who, kind, lim, rts, hld, all, own, frm, ⟨ea, eb⟩, ⟨oc, od⟩⟩ := c
      have d0 : wr.cell? ⟨b, o + k * 12, none⟩ = some (.int .i64 who) := hcc 0 _ rfl
      clear hcc hcell hc
      rcases and1 who with hbit | hbit
      · rcases HI.out.cellsA with y0 | ⟨mb, cb, x, g, r, rfl, y0, y1⟩
        · go_wp2_with fail
          go_roundw
          case rel => exact ⟨k + 1, s, A, B, by omega, by go_num, HI.out.nx⟩
          case measure => simp [intOf]; omega
        · have HPL : Hid _ := HI.out.playA (⟨who, kind, lim, rts, hld, all, own, frm, ⟨ea, eb⟩, ⟨oc, od⟩⟩ : Cl) (by omega)
          go_upto_region 10 with fail
          have d1 : wr.cell? ⟨b, o + k * 12 + 1, none⟩ = some (.int .i64 kind) := HCC.out 1 _ rfl
          have d2 : wr.cell? ⟨b, o + k * 12 + 2, none⟩ = some (.int .i64 lim) := HCC.out 2 _ rfl
          have d3 : wr.cell? ⟨b, o + k * 12 + 3, none⟩ = some (.int .i64 rts) := HCC.out 3 _ rfl
          have d4 : wr.cell? ⟨b, o + k * 12 + 4, none⟩ = some (.int .i64 hld) := HCC.out 4 _ rfl
          have d5 : wr.cell? ⟨b, o + k * 12 + 5, none⟩ = some (.bool all) := HCC.out 5 _ rfl
          have d6 : wr.cell? ⟨b, o + k * 12 + 6, none⟩ = some (.bool own) := HCC.out 6 _ rfl
          have d7 : wr.cell? ⟨b, o + k * 12 + 7, none⟩ = some (.int .i64 frm) := HCC.out 7 _ rfl
          have d8 : wr.cell? ⟨b, o + k * 12 + 8, none⟩ = some (.int .i64 ea) := HCC.out 8 _ rfl
          have d9 : wr.cell? ⟨b, o + k * 12 + 9, none⟩ = some (.int .i64 eb) := HCC.out 9 _ rfl
          have d10 : wr.cell? ⟨b, o + k * 12 + 10, none⟩ = some (.int .i64 oc) := HCC.out 10 _ rfl
          have d11 : wr.cell? ⟨b, o + k * 12 + 11, none⟩ = some (.int .i64 od) := HCC.out 11 _ rfl
          clear HCC
          go_wp2_with (first
            | (go_at_call 27; refine Calls.mono HPL.out ?_; rintro e w9 ⟨rfl, s', A', hI'⟩; have HI' : Hid _ := hI'; clear hI')
            | fail)
          go_roundw
          case rel => exact ⟨k + 1, s', A', B, by omega, by go_num, HI'⟩
          case measure => simp [intOf]; omega
      · rcases HI.out.cellsB with y0 | ⟨mb, cb, x, g, r, rfl, y0, y1⟩
        · go_wp2_with fail
          go_roundw
          case rel => exact ⟨k + 1, s, A, B, by omega, by go_num, HI.out.nx⟩
          case measure => simp [intOf]; omega
        · have HPL : Hid _ := HI.out.playB (⟨who, kind, lim, rts, hld, all, own, frm, ⟨ea, eb⟩, ⟨oc, od⟩⟩ : Cl) (by omega)
          go_upto_region 10 with fail
          have d1 : wr.cell? ⟨b, o + k * 12 + 1, none⟩ = some (.int .i64 kind) := HCC.out 1 _ rfl
          have d2 : wr.cell? ⟨b, o + k * 12 + 2, none⟩ = some (.int .i64 lim) := HCC.out 2 _ rfl
          have d3 : wr.cell? ⟨b, o + k * 12 + 3, none⟩ = some (.int .i64 rts) := HCC.out 3 _ rfl
          have d4 : wr.cell? ⟨b, o + k * 12 + 4, none⟩ = some (.int .i64 hld) := HCC.out 4 _ rfl
          have d5 : wr.cell? ⟨b, o + k * 12 + 5, none⟩ = some (.bool all) := HCC.out 5 _ rfl
          have d6 : wr.cell? ⟨b, o + k * 12 + 6, none⟩ = some (.bool own) := HCC.out 6 _ rfl
          have d7 : wr.cell? ⟨b, o + k * 12 + 7, none⟩ = some (.int .i64 frm) := HCC.out 7 _ rfl
          have d8 : wr.cell? ⟨b, o + k * 12 + 8, none⟩ = some (.int .i64 ea) := HCC.out 8 _ rfl
          have d9 : wr.cell? ⟨b, o + k * 12 + 9, none⟩ = some (.int .i64 eb) := HCC.out 9 _ rfl
          have d10 : wr.cell? ⟨b, o + k * 12 + 10, none⟩ = some (.int .i64 oc) := HCC.out 10 _ rfl
          have d11 : wr.cell? ⟨b, o + k * 12 + 11, none⟩ = some (.int .i64 od) := HCC.out 11 _ rfl
          clear HCC
          go_wp2_with (first
            | (go_at_call 27; refine Calls.mono HPL.out ?_; rintro e w9 ⟨rfl, s', A', hI'⟩; have HI' : Hid _ := hI'; clear hI')
            | fail)
          go_roundw
          case rel => exact ⟨k + 1, s', A, A', by omega, by go_num, HI'⟩
          case measure => simp [intOf]; omega
    · obtain rfl : k = nn := by omega
      have HW : Hid _ := (F.K kb).whole (pES_k HI.out.st) (by have := HI.out.cn; omega)
      go_wp2_with (first
        | (go_at_call 28; refine Calls.mono HW.out ?_; rintro e w9 ⟨rfl, hc9⟩)
        | fail)
      go_ret
      refine ⟨rfl, HI.out.low.trans (hc9.below HI.out.low.size (fun q hq => ((F.K kb).lt (pES_k HI.out.st) hq).1))⟩
end Go.Proofs.Ytjojhhkbebddmaa
