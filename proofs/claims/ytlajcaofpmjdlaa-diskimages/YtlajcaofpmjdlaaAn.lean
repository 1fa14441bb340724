import Derived.Test.YtlajcaofpmjdlaaPs2
namespace Go.Proofs.Ytlajcaofpmjdlaa
open Go.RowKit Go.PlainAid
set_option linter.unusedVariables false
set_option linter.unusedSimpArgs false
section
variable {L pb : Nat} {S : SV} {dp rp lent : Value} {n : Nat} {R : List (Ent L)} {w : World}
theorem PH.bump (h : PH L pb S dp rp lent n R w) : PH L pb S dp rp lent (n + 1) R (w.setCell ⟨pb, 13, none⟩ (.int .i64 ((n + 1 : Nat) : Int))) := Held.boxSet h 13 _
theorem PH.c13 (h : PH L pb S dp rp lent n R w) : w.cell? ⟨pb, 13, none⟩ = some (.int .i64 (n : Int)) ∧ w.frozen? ⟨pb, 13, none⟩ = false := ⟨(Held.boxB h).cell 13, (Held.boxB h).frozen 13⟩
/-- What is in front of the rest is changed. -/
theorem PH.swapX {X X' : Ent L} {w' : World} (h : PH L pb S dp rp lent n ([X] ++ R) w) (hc : Chg (fun k => X.bl k) w w') (hP : X'.P w') (hu : ∀ k, X'.bl k → X.bl k ∨ w.heap.size ≤ k) : PH L pb S dp rp lent n ([X'] ++ R) w' := by
  have e : ∀ Y : Ent L, boxE L pb (S.cs dp rp lent n) 66 :: (S.rows L ++ (S.data L ++ ([Y] ++ R))) = (boxE L pb (S.cs dp rp lent n) 66 :: (S.rows L ++ S.data L)) ++ Y :: R := fun Y => by simp
  unfold PH at h ⊢
  rw [e] at h ⊢
  exact h.at hc hP hu
theorem PH.getX {X : Ent L} (h : PH L pb S dp rp lent n ([X] ++ R) w) : X.P w := h.all X (by simp)
theorem PH.belowX {X : Ent L} {w' : World} (h : PH L pb S dp rp lent n ([X] ++ R) w) (hc : Chg (fun k => X.bl k) w w') : Below L w w' := Held.below2 h h.low hc (fun k hk => ⟨X, by simp, hk⟩)
/-- An answer is spoilt. -/
theorem PH.spoil {vo : Option Addr} {vn vc : Nat} {bs : List UInt8} (h : PH L pb S dp rp lent n ([datE L (.slice vo vn vc, bs)] ++ R) w) (hl : bs.length = vn) (hvn : vn ≤ 1000000000) :
    Calls Try.prog 26 #[.slice vo vn vc] w fun e w' => e = .returned (.tuple #[]) ∧ (∃ bs' : List UInt8, bs'.length = vn ∧ PH L pb S dp rp lent n ([datE L (.slice vo vn vc, bs')] ++ R) w') ∧ Below L w w' := by
  have hr : w.ownsRow L 5 1 (.slice vo vn vc) bs.length (bs.map B) := h.getX
  rw [hl] at hr
  refine (spoil_any w hr h.low hvn).mono ?_
  rintro e w' ⟨rfl, ⟨zs, hz⟩, hc⟩
  have hzl : zs.length = vn := by have := hz.1; simpa using this
  refine ⟨rfl, ⟨zs, hzl, h.swapX hc ?_ (fun k hk => Or.inl hk)⟩, h.belowX hc⟩
  show w'.ownsRow L 5 1 (.slice vo vn vc) zs.length (zs.map B)
  rw [hzl]
  exact hz
set_option maxRecDepth 100000 in
set_option maxHeartbeats 3200000 in
theorem answered_any {vo : Option Addr} {vn vc : Nat} {bs : List UInt8} (w : World) (h : PH L pb S dp rp lent n ([datE L (.slice vo vn vc, bs)] ++ R) w) (hk : S.Ok n) (hn : n ≤ 10000) (hl : bs.length = vn) (hvn : vn ≤ 1000000000) :
    Calls Try.prog 51 #[.pointer (some ⟨pb, 0, none⟩), .slice vo vn vc] w fun e w' => ∃ S' : SV, e = .returned (.tuple #[]) ∧ S'.Ok (n + 1) ∧ PH L pb S' dp rp lent (n + 1) R w' ∧ Below L w w' := by
  obtain ⟨c13, f13⟩ := h.c13
  have h1 := h.bump
  rw [show ((n + 1 : Nat) : Int) = (n : Int) + 1 by omega] at h1
  have hc1 : Below L w (w.setCell ⟨pb, 13, none⟩ (.int .i64 ((n : Int) + 1))) := Held.below2 h h.low (setCell_chg _ _ _ _) (fun k hk => ⟨_, List.mem_cons_self .., hk⟩)
  have hk1 : S.Ok (n + 1) := hk.more (by omega)
  obtain ⟨w1, hw1⟩ : ∃ w1, w1 = w.setCell ⟨pb, 13, none⟩ (.int .i64 ((n : Int) + 1)) := ⟨_, rfl⟩
  rw [← hw1] at h1 hc1
  have hmn : S.mark < n + 1 := by have := hk.mkb; omega
  have hspoil := h1.spoil hl hvn
  obtain ⟨r, hr⟩ : ∃ r : Nat, r = (n + 1) % 3 := ⟨_, rfl⟩
  have hrem : ((n : Int) + 1).tmod 3 = (r : Int) := by rw [Int.tmod_eq_emod_of_nonneg (by omega)]; omega
  have hrem2 : ((n : Int) + 1) % 3 = (r : Int) := by omega
  have HP1 : Hid (PH L pb S dp rp lent (n + 1) ([datE L (.slice vo vn vc, bs)] ++ R) w1) := h1
  have HC1 : Hid (Below L w w1) := hc1
  have HSP : Hid _ := hspoil
  have HK1 : Hid (S.Ok (n + 1)) := hk1
  have HMN : Hid (S.mark < n + 1) := hmn
  have HKP : Hid (∀ (bs' : List UInt8) (w2 : World), bs'.length = vn → PH L pb S dp rp lent (n + 1) ([datE L (.slice vo vn vc, bs')] ++ R) w2 → Calls Try.prog 57 #[.pointer (some ⟨pb, 2, none⟩), .slice vo vn vc] w2 fun e w' => ∃ S' : SV, e = .returned (.tuple #[]) ∧ S'.Ok (n + 1) ∧ PH L pb S' dp rp lent (n + 1) R w' ∧ Below L w2 w') := fun bs' w2 hl2 h2 => h2.keep hk1 hmn (by omega) hl2 hvn
  have hcase : r = 0 ∨ (¬ r = 0 ∧ (vn ≤ 4194304 - S.size ∧ S.lb.length < 100)) ∨ (¬ r = 0 ∧ ¬ (vn ≤ 4194304 - S.size ∧ S.lb.length < 100)) := by omega
  rcases hcase with h0 | ⟨h0, hy⟩ | ⟨h0, hy⟩
  · subst h0
    clear h h1 hc1 hk1 hmn hspoil hk hr
    go_enter Try.func51, Try.ntmps51
    go_wp2_with fail
    rw [← hw1]
    clear hw1 c13 f13
    refine Calls.mono HSP.out ?_
    rintro e w2 ⟨rfl, ⟨bs2, hl2, h2⟩, hb2⟩
    have HKK : Hid _ := HKP.out bs2 w2 hl2 h2
    have HB2 : Hid (Below L w w2) := HC1.out.trans hb2
    clear HSP h2 hb2 hl2
    go_wp2_with fail
    refine Calls.mono HKK.out ?_
    rintro e w3 ⟨S', rfl, hk3, h3, hb3⟩
    have HF : Hid (S'.Ok (n + 1) ∧ PH L pb S' dp rp lent (n + 1) R w3 ∧ Below L w w3) := ⟨hk3, h3, HB2.out.trans hb3⟩
    clear HKK hk3 h3 hb3
    go_wp2_with fail
    refine bodyPost_end (results_none rfl _ _ _) rfl ?_
    first
      | exact ⟨S', rfl, HF.out.1, HF.out.2.1, HF.out.2.2⟩
      | exact ⟨rfl, S', HF.out.1, HF.out.2.1, HF.out.2.2⟩
  · have hrb : ((r : Int) == 0) = false := by simp; omega
    have hrc : ¬ ((r : Int) = 0) := by omega
    have HLV : Hid _ := h1.leave hk1 hl hy.1 hy.2
    clear h h1 hc1 hk1 hmn hspoil hk hr hy
    go_enter Try.func51, Try.ntmps51
    go_wp2_with fail
    rw [← hw1]
    clear hw1 c13 f13
    refine Calls.mono HLV.out ?_
    rintro e w3 ⟨S', rfl, hk3, h3, hb3⟩
    have HF : Hid (S'.Ok (n + 1) ∧ PH L pb S' dp rp lent (n + 1) R w3 ∧ Below L w w3) := ⟨hk3, h3, HC1.out.trans hb3⟩
    clear HLV hk3 h3 hb3
    go_wp2_with fail
    refine bodyPost_end (results_none rfl _ _ _) rfl ?_
    first
      | exact ⟨S', rfl, HF.out.1, HF.out.2.1, HF.out.2.2⟩
      | exact ⟨rfl, S', HF.out.1, HF.out.2.1, HF.out.2.2⟩
  · have hrb : ((r : Int) == 0) = false := by simp; omega
    have hrc : ¬ ((r : Int) = 0) := by omega
    obtain ⟨lo, lc, hlv⟩ := tail_val (h1.all (tailE L 30 S.lv S.lb.length (S.lb.map Prod.fst)) (by simp [SV.rows]) : Tail w1 L 30 S.lv S.lb.length (S.lb.map Prod.fst))
    have HLV : Hid (Calls Try.prog 56 #[.pointer (some ⟨pb, 2, none⟩), .slice vo vn vc] w1 fun e w' => e = .returned (.bool false) ∧ w' = w1) := leave_no (n := S.lb.length) (size := S.size) (lo := lo) (lc := lc) w1 (Held.boxB h1) (by show some S.lv = _; rw [hlv]) rfl hk1.sz hvn (by omega)
    clear h h1 hc1 hk1 hmn hspoil hk hr hy hlv
    go_enter Try.func51, Try.ntmps51
    go_wp2_with fail
    rw [← hw1]
    clear hw1 c13 f13
    refine Calls.mono HLV.out ?_
    rintro e w9 ⟨rfl, hw9⟩
    replace hw9 := hw9.symm
    subst hw9
    clear HLV
    go_wp2_with fail
    refine Calls.mono HSP.out ?_
    rintro e w2 ⟨rfl, ⟨bs2, hl2, h2⟩, hb2⟩
    have HKK : Hid _ := HKP.out bs2 w2 hl2 h2
    have HB2 : Hid (Below L w w2) := HC1.out.trans hb2
    clear HSP h2 hb2 hl2
    go_wp2_with fail
    refine Calls.mono HKK.out ?_
    rintro e w3 ⟨S', rfl, hk3, h3, hb3⟩
    have HF : Hid (S'.Ok (n + 1) ∧ PH L pb S' dp rp lent (n + 1) R w3 ∧ Below L w w3) := ⟨hk3, h3, HB2.out.trans hb3⟩
    clear HKK hk3 h3 hb3
    go_wp2_with fail
    refine bodyPost_end (results_none rfl _ _ _) rfl ?_
    first
      | exact ⟨S', rfl, HF.out.1, HF.out.2.1, HF.out.2.2⟩
      | exact ⟨rfl, S', HF.out.1, HF.out.2.1, HF.out.2.2⟩
end
end Go.Proofs.Ytlajcaofpmjdlaa
