import Derived.Test.YtlajcaofpmjdlaaTe2
import Derived.Deep.Cut
namespace Go.Proofs.Ytlajcaofpmjdlaa
open Go.RowKit Go.PlainAid
set_option linter.unusedVariables false
set_option linter.unusedSimpArgs false
/-- One step of a script. -/
structure OpV where
  kind : Int
  who : Int
  n : Int
  m : Int
  b : Value
  bs : List UInt8
def OpV.cs (o : OpV) : Array Value := #[.int .i64 o.kind, .int .i64 o.who, .int .i64 o.n, .int .i64 o.m, o.b]
/-- A script in memory that none of what a pair owns is part of. -/
structure Scr (L : Nat) (R : List (Ent L)) (w : World) (v : Value) (os : List OpV) : Prop where
  sh : ∃ ao cap, v = .slice ao os.length cap
  cl : ∀ i o, os[i]? = some o → ∃ g f cap, v = .slice (some ⟨g, f, none⟩) os.length cap ∧ w.cell? ⟨g, f + i * 5, none⟩ = some (.int .i64 o.kind) ∧ w.cell? ⟨g, f + i * 5 + 1, none⟩ = some (.int .i64 o.who) ∧ w.cell? ⟨g, f + i * 5 + 2, none⟩ = some (.int .i64 o.n) ∧ w.cell? ⟨g, f + i * 5 + 3, none⟩ = some (.int .i64 o.m) ∧ w.cell? ⟨g, f + i * 5 + 4, none⟩ = some o.b
  by' : ∀ o ∈ os, By w o.b o.bs ∧ ∀ ad k c, o.b = .slice (some ad) k c → 0 < k → ad.block < L ∨ has R ad.block
def OpV.Ok (o : OpV) : Prop := o.n ≤ 9223372036854775807 ∧ o.bs.length ≤ 1000000000
section
variable {L pb p s rb : Nat} {S : SV} {lent fv lv : Value} {n : Nat} {x : DV} {r : RV} {R : List (Ent L)} {zs : List UInt8} {w w' : World}
theorem PA.rest (h : PA L pb p s rb S fv lv lent n zs x r R w) : Held R w := Held.sub h (by
  refine List.Sublist.cons _ ?_
  refine List.Sublist.trans ?_ (List.sublist_append_right _ _)
  refine List.Sublist.trans ?_ (List.sublist_append_right _ _)
  exact List.Sublist.cons _ (List.Sublist.cons _ (List.Sublist.cons _ (List.Sublist.refl _))))
theorem acts_any (o : OpV) (w : World) (h : PA L pb p s rb S fv lv lent n zs x r R w) (ha : AgD x r) (hx : r.log.length ≤ 1000) (hb : By w o.b o.bs) (hbn : ∀ ad k c, o.b = .slice (some ad) k c → 0 < k → ad.block < L ∨ has R ad.block) (ho : o.Ok) (h1 : 1 ≤ o.kind) (h4 : o.kind ≤ 4) :
    Calls Try.prog 41 #[.pointer (some ⟨pb, 0, none⟩), .agg o.cs] w (ActO L pb p s rb S n r R w) := by
  obtain ⟨k, who, oN, oM, ob, bs⟩ := o
  have h1 : 1 ≤ k := h1
  have h4 : k ≤ 4 := h4
  have hN : oN ≤ 9223372036854775807 := ho.1
  rcases (by omega : k = 1 ∨ k = 2 ∨ k = 3 ∨ k = 4) with e | e | e | e
  · subst e
    obtain ⟨vo, vn, vc, hv, _⟩ := id hb
    have hv : ob = .slice vo vn vc := hv
    subst hv
    exact acts_write who oN oM w h ha hx hb (fun ad e h0 => hbn ad vn vc (by rw [e]) h0) ho.2
  · subst e; exact acts_arm who oN oM w h ha hN
  · subst e; exact acts_off who oN oM w h ha hN
  · subst e; exact acts_on who oN oM w h ha hN
/-- What plays asks of tells. -/
def TelC (L pb p s rb : Nat) (R : List (Ent L)) (W : World) (o : OpV) : Prop := ∀ (S : SV) (fv lv lent : Value) (n : Nat) (zs : List UInt8) (x : DV) (r : RV) (w : World), Below L W w → PA L pb p s rb S fv lv lent n zs x r R w → S.Ok n → n ≤ 10000 → AgD x r → r.log.length ≤ 1000 → Calls Try.prog 42 #[.pointer (some ⟨pb, 0, none⟩), .agg o.cs] w (TelO L pb p s rb fv lv lent n zs x r R w)
/-- A pair in the midst of a script. -/
def Mid (L pb p s rb : Nat) (R : List (Ent L)) (w0 : World) (n0 l0 : Nat) (w : World) : Prop := ∃ (S : SV) (fv lv lent : Value) (n : Nat) (zs : List UInt8) (x : DV) (r : RV), n ≤ n0 ∧ S.Ok n ∧ AgD x r ∧ r.log.length ≤ l0 ∧ PA L pb p s rb S fv lv lent n zs x r R w ∧ Below L w0 w
theorem PH.standsX {dp rp : Value} {R : List (Ent L)} (w : World) (h : PH L pb S dp rp lent n R w) (hk : S.Ok n) : Calls Try.prog 43 #[.pointer (some ⟨pb, 2, none⟩)] w fun e w' => e = .returned (.bool true) ∧ ∃ q, w' = w.drewN q := stands_yes w h.sto (by have := hk.kb; omega) (by have := hk.ki; omega) (fun d hd => by have := hk.kn d hd; omega)
set_option maxRecDepth 100000 in
set_option maxHeartbeats 6400000 in
theorem plays_any {v : Value} {os : List OpV} (lo hi : Int) (w : World) (n0 l0 : Nat) (h : Mid L pb p s rb R w n0 l0 w) (hS : ∀ w', Below L w w' → Held R w' → Scr L R w' v os) (hO : ∀ o ∈ os, o.Ok) (hT : ∀ o ∈ os, lo ≤ o.kind → o.kind ≤ hi → TelC L pb p s rb R w o) (hn : n0 + os.length ≤ 10000) (hl : l0 + os.length ≤ 1000) :
    Calls Try.prog 32 #[.pointer (some ⟨pb, 0, none⟩), v, .int .i64 lo, .int .i64 hi] w fun e w' => e = .returned (.bool true) ∧ Mid L pb p s rb R w (n0 + os.length) (l0 + os.length) w' := by
  obtain ⟨vo, vc, hv⟩ : ∃ ao cap, v = .slice ao os.length cap := by
    obtain ⟨S, fv, lv, lent, n, zs, x, r, _, _, _, _, hp, hb⟩ := id h
    exact (hS w hb (PA.rest hp)).sh
  obtain ⟨N, hN⟩ : ∃ N, N = os.length := ⟨_, rfl⟩
  rw [← hN] at hv hn hl ⊢
  have HS : Hid (∀ w', Below L w w' → Held R w' → Scr L R w' v os) := hS
  have HV : Hid (v = .slice vo N vc) := hv
  have HN : Hid (N = os.length) := hN
  have HO : Hid _ := hO
  have HT : Hid (∀ o ∈ os, lo ≤ o.kind → o.kind ≤ hi → TelC L pb p s rb R w o) := hT
  have HM : Hid (Mid L pb p s rb R w n0 l0 w) := h
  have HB : Hid (n0 + N ≤ 10000 ∧ l0 + N ≤ 1000) := ⟨hn, hl⟩
  have hN1 : N ≤ 10000 := by omega
  subst hv
  clear h hS hO hT hn hl hN
  go_enter Try.func32, Try.ntmps32
  go_wp2_with fail
  go_loopw [9, 10] (fun s9 s10 wr => ∃ i : Nat, i ≤ N ∧ s9 = .bool true ∧ s10 = .int .i64 (i : Int) ∧ Mid L pb p s rb R w (n0 + i) (l0 + i) wr) (fun _ s10 _ => N - (intOf s10).toNat)
  case atStart => exact ⟨0, Nat.zero_le _, rfl, rfl, HM.out⟩
  case round =>
    clear HM
    obtain ⟨i, hiN, rfl, rfl, hm⟩ := hrel
    by_cases hlt : i < N
    · obtain ⟨o, ho⟩ : ∃ o, os[i]? = some o := ⟨os[i]'(by have := HN.out; omega), List.getElem?_eq_getElem _⟩
      have hom := List.mem_of_getElem? ho
      obtain ⟨S1, fv1, lv1, lent1, n1, zs1, x1, r1, hn1, hk1, ha1, hl1, hp1, hb1⟩ := hm
      have hsc := HS.out wr hb1 (PA.rest hp1)
      obtain ⟨g, f, cap, hve, c0, c1, c2, c3, c4⟩ := hsc.cl i o ho
      have hby := hsc.by' o hom
      have hvo : vo = some ⟨g, f, none⟩ := by cases hve; rfl
      obtain ⟨k, who, oN, oM, bv, bs⟩ := o
      obtain ⟨bo, bn, bc, hbv, _⟩ := id hby.1
      have hbv : bv = .slice bo bn bc := hbv
      subst hbv
      obtain ⟨q, hq⟩ : ∃ q, q = wr.heap.size := ⟨_, rfl⟩
      obtain ⟨X, hX⟩ : ∃ X, X = wr.alloc (.cells #[.int .i64 k, .int .i64 who, .int .i64 oN, .int .i64 oM, (Value.slice bo bn bc)] 58) := ⟨_, rfl⟩
      have hbX : Below wr.heap.size wr X := by rw [hX]; exact (Below.refl _ _).alloc (Nat.le_refl _) _
      have hBX : Blk X q #[.int .i64 k, .int .i64 who, .int .i64 oN, .int .i64 oM, (Value.slice bo bn bc)] 58 := by rw [hX, hq]; exact heap_alloc_new wr _
      have hpX := PH.more hp1 hbX
      have hbw : Below L w X := hb1.trans (hbX.mono (PH.low hp1))
      have hix := idx_run 51 58 5 Try.underlying51 (by kernel_rfl) wr g f N vc i hlt
      have HPX : Hid (PA L pb p s rb S1 fv1 lv1 lent1 n1 zs1 x1 r1 R X ∧ Below L w X) := ⟨hpX, hbw⟩
      have HOK : Hid (S1.Ok n1 ∧ AgD x1 r1 ∧ n1 ≤ n0 + i ∧ r1.log.length ≤ l0 + i) := ⟨hk1, ha1, hn1, hl1⟩
      have HBY : Hid (By X (Value.slice bo bn bc) bs ∧ ∀ ad k c, (Value.slice bo bn bc) = .slice (some ad) k c → 0 < k → ad.block < L ∨ has R ad.block) := ⟨hby.1.keep hbX, hby.2⟩
      have HOM : Hid ((⟨k, who, oN, oM, (Value.slice bo bn bc), bs⟩ : OpV) ∈ os) := hom
      have b0 : X.cell? ⟨q, 0, none⟩ = some (.int .i64 k) := hBX.cell 0
      have b1 : X.cell? ⟨q, 1, none⟩ = some (.int .i64 who) := hBX.cell 1
      have b2 : X.cell? ⟨q, 2, none⟩ = some (.int .i64 oN) := hBX.cell 2
      have b3 : X.cell? ⟨q, 3, none⟩ = some (.int .i64 oM) := hBX.cell 3
      have b4 : X.cell? ⟨q, 4, none⟩ = some (Value.slice bo bn bc) := hBX.cell 4
      subst hvo
      clear hsc hby hve hom ho hk1 ha1 hn1 hl1 hp1 hb1 hbX hBX hpX hbw
      go_upto_region 6 with fail
      rw [← hX, ← hq]
      clear hX hq c0 c1 c2 c3 c4 hix
      by_cases hA : 1 ≤ k ∧ k ≤ 4
      · obtain ⟨hA1, hA4⟩ := hA
        have HC : Hid _ := acts_any (⟨k, who, oN, oM, (Value.slice bo bn bc), bs⟩ : OpV) X HPX.out.1 HOK.out.2.1 (by have := HOK.out.2.2.2; have := HB.out; omega) HBY.out.1 HBY.out.2 (HO.out _ HOM.out) hA1 hA4
        go_wp2_with fail
        refine Calls.mono HC.out ?_
        rintro e w1 ⟨rfl, fv2, lv2, lent2, zs2, x2, r2, ha2, hl2, hp2, hb2⟩
        clear HC b0 b1 b2 b3 b4
        have HST : Hid _ := PH.standsX w1 hp2 HOK.out.1
        have HF : Hid (Mid L pb p s rb R w (n0 + (i + 1)) (l0 + (i + 1)) w1) := ⟨S1, fv2, lv2, lent2, n1, zs2, x2, r2, by have := HOK.out.2.2.1; omega, HOK.out.1, ha2, by have := HOK.out.2.2.2; omega, hp2, HPX.out.2.trans hb2⟩
        clear ha2 hl2 hp2 hb2
        go_wp2_with fail
        refine Calls.mono HST.out ?_
        rintro e w3 ⟨rfl, q3, hw3⟩
        clear HST
        have HG : Hid (Mid L pb p s rb R w (n0 + (i + 1)) (l0 + (i + 1)) w3) := by
          obtain ⟨S3, fv3, lv3, lent3, n3, zs3, x3, r3, e1, e2, e3, e4, e5, e6⟩ := HF.out
          rw [hw3]
          exact ⟨S3, fv3, lv3, lent3, n3, zs3, x3, r3, e1, e2, e3, e4, PH.keep0 e5 (fun _ => rfl), e6.os, e6.tape, e6.output, e6.size, e6.block⟩
        clear hw3 HF
        go_wp2_with fail
        go_roundw
        case rel => exact ⟨i + 1, by omega, rfl, by go_num, HG.out⟩
        case measure => simp [intOf]; omega
      · by_cases hL : lo ≤ k ∧ k ≤ hi
        · obtain ⟨hL1, hL2⟩ := hL
          have HC : Hid _ := HT.out _ HOM.out hL1 hL2 S1 fv1 lv1 lent1 n1 zs1 x1 r1 X HPX.out.2 HPX.out.1 HOK.out.1 (by have := HOK.out.2.2.1; have := HB.out; omega) HOK.out.2.1 (by have := HOK.out.2.2.2; have := HB.out; omega)
          by_cases hA1 : 1 ≤ k
          · have hA4 : ¬ (k ≤ 4) := fun e => hA ⟨hA1, e⟩
            clear hA
            go_wp2_with fail
            refine Calls.mono HC.out ?_
            rintro e w1 ⟨rfl, S2, n2, hn2, hk2, hp2, hb2⟩
            clear HC b0 b1 b2 b3 b4
            have HST : Hid _ := PH.standsX w1 hp2 hk2
            have HF : Hid (Mid L pb p s rb R w (n0 + (i + 1)) (l0 + (i + 1)) w1) := ⟨S2, fv1, lv1, lent1, n2, zs1, x1, r1, by have := HOK.out.2.2.1; omega, hk2, HOK.out.2.1, by have := HOK.out.2.2.2; omega, hp2, HPX.out.2.trans hb2⟩
            clear hn2 hk2 hp2 hb2
            go_wp2_with fail
            refine Calls.mono HST.out ?_
            rintro e w3 ⟨rfl, q3, hw3⟩
            clear HST
            have HG : Hid (Mid L pb p s rb R w (n0 + (i + 1)) (l0 + (i + 1)) w3) := by
              obtain ⟨S3, fv3, lv3, lent3, n3, zs3, x3, r3, e1, e2, e3, e4, e5, e6⟩ := HF.out
              rw [hw3]
              exact ⟨S3, fv3, lv3, lent3, n3, zs3, x3, r3, e1, e2, e3, e4, PH.keep0 e5 (fun _ => rfl), e6.os, e6.tape, e6.output, e6.size, e6.block⟩
            clear hw3 HF
            go_wp2_with fail
            go_roundw
            case rel => exact ⟨i + 1, by omega, rfl, by go_num, HG.out⟩
            case measure => simp [intOf]; omega
          · clear hA
            go_wp2_with fail
            refine Calls.mono HC.out ?_
            rintro e w1 ⟨rfl, S2, n2, hn2, hk2, hp2, hb2⟩
            clear HC b0 b1 b2 b3 b4
            have HST : Hid _ := PH.standsX w1 hp2 hk2
            have HF : Hid (Mid L pb p s rb R w (n0 + (i + 1)) (l0 + (i + 1)) w1) := ⟨S2, fv1, lv1, lent1, n2, zs1, x1, r1, by have := HOK.out.2.2.1; omega, hk2, HOK.out.2.1, by have := HOK.out.2.2.2; omega, hp2, HPX.out.2.trans hb2⟩
            clear hn2 hk2 hp2 hb2
            go_wp2_with fail
            refine Calls.mono HST.out ?_
            rintro e w3 ⟨rfl, q3, hw3⟩
            clear HST
            have HG : Hid (Mid L pb p s rb R w (n0 + (i + 1)) (l0 + (i + 1)) w3) := by
              obtain ⟨S3, fv3, lv3, lent3, n3, zs3, x3, r3, e1, e2, e3, e4, e5, e6⟩ := HF.out
              rw [hw3]
              exact ⟨S3, fv3, lv3, lent3, n3, zs3, x3, r3, e1, e2, e3, e4, PH.keep0 e5 (fun _ => rfl), e6.os, e6.tape, e6.output, e6.size, e6.block⟩
            clear hw3 HF
            go_wp2_with fail
            go_roundw
            case rel => exact ⟨i + 1, by omega, rfl, by go_num, HG.out⟩
            case measure => simp [intOf]; omega
        · have HST : Hid _ := PH.standsX X HPX.out.1 HOK.out.1
          have HF : Hid (Mid L pb p s rb R w (n0 + (i + 1)) (l0 + (i + 1)) X) := ⟨S1, fv1, lv1, lent1, n1, zs1, x1, r1, by have := HOK.out.2.2.1; omega, HOK.out.1, HOK.out.2.1, by have := HOK.out.2.2.2; omega, HPX.out.1, HPX.out.2⟩
          by_cases hA1 : 1 ≤ k
          · have hA4 : ¬ (k ≤ 4) := fun e => hA ⟨hA1, e⟩
            clear hA
            by_cases hL1 : lo ≤ k
            · have hL2 : ¬ (k ≤ hi) := fun e => hL ⟨hL1, e⟩
              clear hL
              go_wp2_with fail
              refine Calls.mono HST.out ?_
              rintro e w3 ⟨rfl, q3, hw3⟩
              clear HST
              have HG : Hid (Mid L pb p s rb R w (n0 + (i + 1)) (l0 + (i + 1)) w3) := by
                obtain ⟨S3, fv3, lv3, lent3, n3, zs3, x3, r3, e1, e2, e3, e4, e5, e6⟩ := HF.out
                rw [hw3]
                exact ⟨S3, fv3, lv3, lent3, n3, zs3, x3, r3, e1, e2, e3, e4, PH.keep0 e5 (fun _ => rfl), e6.os, e6.tape, e6.output, e6.size, e6.block⟩
              clear hw3 HF
              go_wp2_with fail
              go_roundw
              case rel => exact ⟨i + 1, by omega, rfl, by go_num, HG.out⟩
              case measure => simp [intOf]; omega
            · clear hL
              go_wp2_with fail
              refine Calls.mono HST.out ?_
              rintro e w3 ⟨rfl, q3, hw3⟩
              clear HST
              have HG : Hid (Mid L pb p s rb R w (n0 + (i + 1)) (l0 + (i + 1)) w3) := by
                obtain ⟨S3, fv3, lv3, lent3, n3, zs3, x3, r3, e1, e2, e3, e4, e5, e6⟩ := HF.out
                rw [hw3]
                exact ⟨S3, fv3, lv3, lent3, n3, zs3, x3, r3, e1, e2, e3, e4, PH.keep0 e5 (fun _ => rfl), e6.os, e6.tape, e6.output, e6.size, e6.block⟩
              clear hw3 HF
              go_wp2_with fail
              go_roundw
              case rel => exact ⟨i + 1, by omega, rfl, by go_num, HG.out⟩
              case measure => simp [intOf]; omega
          · clear hA
            by_cases hL1 : lo ≤ k
            · have hL2 : ¬ (k ≤ hi) := fun e => hL ⟨hL1, e⟩
              clear hL
              go_wp2_with fail
              refine Calls.mono HST.out ?_
              rintro e w3 ⟨rfl, q3, hw3⟩
              clear HST
              have HG : Hid (Mid L pb p s rb R w (n0 + (i + 1)) (l0 + (i + 1)) w3) := by
                obtain ⟨S3, fv3, lv3, lent3, n3, zs3, x3, r3, e1, e2, e3, e4, e5, e6⟩ := HF.out
                rw [hw3]
                exact ⟨S3, fv3, lv3, lent3, n3, zs3, x3, r3, e1, e2, e3, e4, PH.keep0 e5 (fun _ => rfl), e6.os, e6.tape, e6.output, e6.size, e6.block⟩
              clear hw3 HF
              go_wp2_with fail
              go_roundw
              case rel => exact ⟨i + 1, by omega, rfl, by go_num, HG.out⟩
              case measure => simp [intOf]; omega
            · clear hL
              go_wp2_with fail
              refine Calls.mono HST.out ?_
              rintro e w3 ⟨rfl, q3, hw3⟩
              clear HST
              have HG : Hid (Mid L pb p s rb R w (n0 + (i + 1)) (l0 + (i + 1)) w3) := by
                obtain ⟨S3, fv3, lv3, lent3, n3, zs3, x3, r3, e1, e2, e3, e4, e5, e6⟩ := HF.out
                rw [hw3]
                exact ⟨S3, fv3, lv3, lent3, n3, zs3, x3, r3, e1, e2, e3, e4, PH.keep0 e5 (fun _ => rfl), e6.os, e6.tape, e6.output, e6.size, e6.block⟩
              clear hw3 HF
              go_wp2_with fail
              go_roundw
              case rel => exact ⟨i + 1, by omega, rfl, by go_num, HG.out⟩
              case measure => simp [intOf]; omega
    · have hie : i = N := by omega
      have HF : Hid (Mid L pb p s rb R w (n0 + i) (l0 + i) wr) := hm
      have hilt : ¬ ((i : Int) < (N : Int)) := by omega
      clear hm
      go_wp2_with fail
      go_ret
      exact ⟨rfl, by rw [← hie]; exact HF.out⟩
end
end Go.Proofs.Ytlajcaofpmjdlaa
