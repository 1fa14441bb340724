import Derived.Test.YtjojhhkbebddmaaL7
namespace Go.Proofs.Ytjojhhkbebddmaa
open Go.RowKit Go.PlainAid
set_option linter.unusedVariables false
set_option linter.unusedSimpArgs false
set_option maxRecDepth 100000 in
set_option maxHeartbeats 12800000 in
theorem pl_0_false {σ : Type} {L kb pb mb cb : Nat} {K : Keeper σ L kb} {hK : KFr K} {s : σ} {x : EV} {g : RG} {r : RV} {R : List (Ent L)} {own0 : Nat → Prop} {w0 : World} (who lim rts hld frm a b c d er ek : Int) (all : Bool) (kind : Int) (k1 : (kind == 1) = false) (k2 : (kind == 2) = false) (k3 : (kind == 3) = false) (k4 : (kind == 4) = false) (k5 : (kind == 5) = false) (k6 : (kind == 6) = false) (w : World) (h : AS own0 w0 (pES K hK s pb mb cb x g r R) w) (ha : Agr x r) (hx : x.Nm) (hsz : r.sz ≤ 999999980) (hcnt : K.cnt s ≤ 999999999900) (hE : liveE x x.me = ⟨er, ek⟩) : Calls Try.prog 27 #[.pointer (some ⟨pb, 0, none⟩), .agg #[.int .i64 who, .int .i64 kind, .int .i64 lim, .int .i64 rts, .int .i64 hld, .bool all, .bool false, .int .i64 frm, .int .i64 a, .int .i64 b, .int .i64 c, .int .i64 d], .pointer (some ⟨kb, 0, none⟩)] w fun e w' => e = .returned (.bool true) ∧ ∃ s' g', AS own0 w0 (pES K hK s' pb mb cb x g' r R) w' ∧ K.cnt s' ≤ K.cnt s + 36 := by
  have HX : Hid _ := hx
  have HA : Hid _ := ha
  have HX2 : Hid (EV.Nm x) := hx
  have HA2 : Hid (Agr x r) := show Agr x r from ha
  have HLN : Hid (([] : List Ac).length ≤ 1000000) := show ([] : List Ac).length ≤ 1000000 from Nat.le_trans (show ([] : List Ac).length ≤ 3 from Nat.zero_le _) (by decide)
  have HSZ : Hid _ := hsz
  have HCN : Hid _ := hcnt
  have HLB : Hid _ := ha.lastB
  obtain ⟨p4, hp4⟩ : ∃ p, p = w.heap.size := ⟨_, rfl⟩
  have HP4 : Hid (∀ k, has (pES K hK s pb mb cb x g r R) k → k < p4) := show ∀ k, has (pES K hK s pb mb cb x g r R) k → k < p4 from fun k hk => by rw [hp4]; exact (h.h.typ hk).2
  have HPM : Hid (¬ mown mb cb p4) := show ¬ mown mb cb p4 from fun e => by have := HP4.out p4 (by unfold pES; rw [has_cons, has_cons, has_cons]; exact .inr (.inr (.inl e))); omega
  have HPR : Hid (¬ rown g p4) := show ¬ rown g p4 from fun e => by have := HP4.out p4 (by unfold pES; rw [has_cons, has_cons, has_cons, has_cons]; exact .inr (.inr (.inr (.inl e)))); omega
  have hbW : Below w.heap.size w (w.alloc (.cells #[.int .i64 who, .int .i64 kind, .int .i64 lim, .int .i64 rts, .int .i64 hld, .bool all, .bool false, .int .i64 frm, .int .i64 a, .int .i64 b, .int .i64 c, .int .i64 d] 78)) := (Below.refl _ _).alloc (Nat.le_refl _) _
  have HS0 : Hid (AS own0 w0 (pES K hK s pb mb cb x g r R) (w.alloc (.cells #[.int .i64 who, .int .i64 kind, .int .i64 lim, .int .i64 rts, .int .i64 hld, .bool all, .bool false, .int .i64 frm, .int .i64 a, .int .i64 b, .int .i64 c, .int .i64 d] 78))) := h.more hbW
  have HB0 : Hid (Blk (w.alloc (.cells #[.int .i64 who, .int .i64 kind, .int .i64 lim, .int .i64 rts, .int .i64 hld, .bool all, .bool false, .int .i64 frm, .int .i64 a, .int .i64 b, .int .i64 c, .int .i64 d] 78)) p4 #[.int .i64 who, .int .i64 kind, .int .i64 lim, .int .i64 rts, .int .i64 hld, .bool all, .bool false, .int .i64 frm, .int .i64 a, .int .i64 b, .int .i64 c, .int .i64 d] 78) := show Blk _ _ _ _ from by rw [hp4]; exact heap_alloc_new w _
  have hlt4 : p4 < (w.alloc (.cells #[.int .i64 who, .int .i64 kind, .int .i64 lim, .int .i64 rts, .int .i64 hld, .bool all, .bool false, .int .i64 frm, .int .i64 a, .int .i64 b, .int .i64 c, .int .i64 d] 78)).heap.size := HB0.out.lt
  clear h ha hx hsz hcnt hbW hE
  unfold epV at *
  go_enter Try.func27, Try.ntmps27
  go_upto_region 1 with fail
  try rw [← hp4]
  clear hp4
  generalize w.alloc (.cells #[.int .i64 who, .int .i64 kind, .int .i64 lim, .int .i64 rts, .int .i64 hld, .bool all, .bool false, .int .i64 frm, .int .i64 a, .int .i64 b, .int .i64 c, .int .i64 d] 78) = W0 at *
  have hq6 : W0.cell? ⟨p4, 6, none⟩ = some (.bool false) := HB0.out.cell 6
  obtain ⟨c0, c1⟩ := pES.cl HS0.out
  go_upto_region 3 with fail
  have HB4 : Hid (Blk W0 p4 #[.int .i64 who, .int .i64 kind, .int .i64 lim, .int .i64 rts, .int .i64 hld, .bool all, .bool false, .int .i64 frm, .int .i64 a, .int .i64 b, .int .i64 c, .int .i64 d] 78) := HB0.out
  have HS : Hid (AS own0 w0 (pES K hK s pb mb cb x g r R) W0) := HS0.out
  clear hq6 c0 c1
  have hWW : ∃ W, W = W0 := ⟨_, rfl⟩
  obtain ⟨W, hWW⟩ := hWW
  subst hWW
  have q1 : W.cell? ⟨p4, 1, none⟩ = some (.int .i64 kind) := HB4.out.cell 1
  have hlt4W : p4 < W.heap.size := HB4.out.lt
  clear HS0 HB0 hlt4
  go_upto_region 26 with fail
  have HSR : Hid (AS own0 w0 (rowE L 56 6 (Value.slice none 0 0) ([] : List Ac).length (flatA ([] : List Ac)) :: pES K hK s pb mb cb x g r R) W) := pES.rowT (x := x) (v := .slice none 0 0) (b0 := W.heap.size) HS.out (fun k hk => (HS.out.h.typ hk).2) (pES.lw HS.out).2 (pES.lw HS.out).1 (World.ownsRow_nil _ _ _ _)
  have HO2 : Hid (W.ownsRow 0 117 6 (.slice none 0 0) ([] : List Ac).length (flatA [])) := World.ownsRow_nil _ _ _ _
  clear HS q1 k1 k2 k3 k4 k5 k6
  go_wp2_with (first
    | (go_at_call 53; refine Calls.mono (same_any _ (show W.ownsRow L 56 6 (.slice none 0 0) _ _ from HSR.out.head) HO2.out) ?_; rintro e w6 ⟨rfl, hb6⟩; have HS6 : Hid _ := HSR.out.more hb6; clear hb6)
    | (go_at_call 54; refine Calls.mono (pES.putA HS6.out HLN.out (by have := HCN.out; omega)) ?_; rintro e w7 ⟨rfl, s7, hs7, hc7⟩; have HS7 : Hid _ := hs7; have HC7 : Hid _ := hc7; clear hs7 hc7)
    | (go_at_call 55; refine Calls.mono (looks_any w7 HS7.out HA2.out HX2.out (pES.lw HS7.out).1 (pES.lw HS7.out).2 (by have := HCN.out; have := HC7.out; omega)) ?_; rintro e w8 ⟨rfl, s8, hs8, hc8⟩; have HS8 : Hid _ := hs8; have HC8 : Hid _ := hc8; clear hs8 hc8)
    | fail)
  go_ret
  exact ⟨rfl, s8, _, HS8.out, by have := HC7.out; have := HC8.out; omega⟩
set_option maxRecDepth 100000 in
set_option maxHeartbeats 12800000 in
theorem pl_0_true {σ : Type} {L kb pb mb cb : Nat} {K : Keeper σ L kb} {hK : KFr K} {s : σ} {x : EV} {g : RG} {r : RV} {R : List (Ent L)} {own0 : Nat → Prop} {w0 : World} (who lim rts hld frm a b c d er ek : Int) (all : Bool) (kind : Int) (k1 : (kind == 1) = false) (k2 : (kind == 2) = false) (k3 : (kind == 3) = false) (k4 : (kind == 4) = false) (k5 : (kind == 5) = false) (k6 : (kind == 6) = false) (w : World) (h : AS own0 w0 (pES K hK s pb mb cb x g r R) w) (ha : Agr x r) (hx : x.Nm) (hsz : r.sz ≤ 999999980) (hcnt : K.cnt s ≤ 999999999900) (hE : liveE x x.me = ⟨er, ek⟩) : Calls Try.prog 27 #[.pointer (some ⟨pb, 0, none⟩), .agg #[.int .i64 who, .int .i64 kind, .int .i64 lim, .int .i64 rts, .int .i64 hld, .bool all, .bool true, .int .i64 frm, .int .i64 a, .int .i64 b, .int .i64 c, .int .i64 d], .pointer (some ⟨kb, 0, none⟩)] w fun e w' => e = .returned (.bool true) ∧ ∃ s' g', AS own0 w0 (pES K hK s' pb mb cb x g' r R) w' ∧ K.cnt s' ≤ K.cnt s + 36 := by
  have HX : Hid _ := hx
  have HA : Hid _ := ha
  have HX2 : Hid (EV.Nm x) := hx
  have HA2 : Hid (Agr x r) := show Agr x r from ha
  have HLN : Hid (([] : List Ac).length ≤ 1000000) := show ([] : List Ac).length ≤ 1000000 from Nat.le_trans (show ([] : List Ac).length ≤ 3 from Nat.zero_le _) (by decide)
  have HSZ : Hid _ := hsz
  have HCN : Hid _ := hcnt
  have HLB : Hid _ := ha.lastB
  obtain ⟨p4, hp4⟩ : ∃ p, p = w.heap.size := ⟨_, rfl⟩
  have HP4 : Hid (∀ k, has (pES K hK s pb mb cb x g r R) k → k < p4) := show ∀ k, has (pES K hK s pb mb cb x g r R) k → k < p4 from fun k hk => by rw [hp4]; exact (h.h.typ hk).2
  have HPM : Hid (¬ mown mb cb p4) := show ¬ mown mb cb p4 from fun e => by have := HP4.out p4 (by unfold pES; rw [has_cons, has_cons, has_cons]; exact .inr (.inr (.inl e))); omega
  have HPR : Hid (¬ rown g p4) := show ¬ rown g p4 from fun e => by have := HP4.out p4 (by unfold pES; rw [has_cons, has_cons, has_cons, has_cons]; exact .inr (.inr (.inr (.inl e)))); omega
  have hbW : Below w.heap.size w (w.alloc (.cells #[.int .i64 who, .int .i64 kind, .int .i64 lim, .int .i64 rts, .int .i64 hld, .bool all, .bool true, .int .i64 frm, .int .i64 a, .int .i64 b, .int .i64 c, .int .i64 d] 78)) := (Below.refl _ _).alloc (Nat.le_refl _) _
  have HS0 : Hid (AS own0 w0 (pES K hK s pb mb cb x g r R) (w.alloc (.cells #[.int .i64 who, .int .i64 kind, .int .i64 lim, .int .i64 rts, .int .i64 hld, .bool all, .bool true, .int .i64 frm, .int .i64 a, .int .i64 b, .int .i64 c, .int .i64 d] 78))) := h.more hbW
  have HB0 : Hid (Blk (w.alloc (.cells #[.int .i64 who, .int .i64 kind, .int .i64 lim, .int .i64 rts, .int .i64 hld, .bool all, .bool true, .int .i64 frm, .int .i64 a, .int .i64 b, .int .i64 c, .int .i64 d] 78)) p4 #[.int .i64 who, .int .i64 kind, .int .i64 lim, .int .i64 rts, .int .i64 hld, .bool all, .bool true, .int .i64 frm, .int .i64 a, .int .i64 b, .int .i64 c, .int .i64 d] 78) := show Blk _ _ _ _ from by rw [hp4]; exact heap_alloc_new w _
  have hlt4 : p4 < (w.alloc (.cells #[.int .i64 who, .int .i64 kind, .int .i64 lim, .int .i64 rts, .int .i64 hld, .bool all, .bool true, .int .i64 frm, .int .i64 a, .int .i64 b, .int .i64 c, .int .i64 d] 78)).heap.size := HB0.out.lt
  have HOW : Hid (∀ W, AS own0 w0 (pES K hK s pb mb cb x g r R) W → Calls Try.prog 46 #[.pointer (some ⟨g.rb, 0, none⟩)] W fun e w' => e = .returned (epV ⟨er, ek⟩) ∧ Below W.heap.size W w') := fun W hW => by rw [← hE]; exact rown_any W (pES.rm hW) ha hx
  have HW0 : Hid (w0.heap.size ≤ p4) := show w0.heap.size ≤ p4 from by rw [hp4]; exact h.chg.size
  clear h ha hx hsz hcnt hbW hE
  unfold epV at *
  go_enter Try.func27, Try.ntmps27
  go_upto_region 1 with fail
  try rw [← hp4]
  clear hp4
  generalize w.alloc (.cells #[.int .i64 who, .int .i64 kind, .int .i64 lim, .int .i64 rts, .int .i64 hld, .bool all, .bool true, .int .i64 frm, .int .i64 a, .int .i64 b, .int .i64 c, .int .i64 d] 78) = W0 at *
  have hq6 : W0.cell? ⟨p4, 6, none⟩ = some (.bool true) := HB0.out.cell 6
  obtain ⟨c0, c1⟩ := pES.cl HS0.out
  go_upto_region 3 with (first
    | (go_at_call 46; refine Calls.mono (HOW.out _ HS0.out) ?_; rintro e w1 ⟨rfl, hb1⟩; have hB1 := Blk.up (w := W0) HB0.out hb1; have s8 := hB1.cell 8; have s9 := hB1.cell 9; have f8 := hB1.frozen 8; have f9 := hB1.frozen 9; clear hB1)
    | fail)
  have hc1 : Chg (fun k => k = p4) w1 ((w1.setCell ⟨p4, 8, none⟩ (.int .i64 er)).setCell ⟨p4, 9, none⟩ (.int .i64 ek)) := (setCell_chg _ _ _ _).trans (setCell_chg _ _ _ _) (fun _ _ e => e)
  have HB4 : Hid (Blk ((w1.setCell ⟨p4, 8, none⟩ (.int .i64 er)).setCell ⟨p4, 9, none⟩ (.int .i64 ek)) p4 #[.int .i64 who, .int .i64 kind, .int .i64 lim, .int .i64 rts, .int .i64 hld, .bool all, .bool true, .int .i64 frm, .int .i64 er, .int .i64 ek, .int .i64 c, .int .i64 d] 78) := show Blk _ _ _ _ from ((Blk.up (w := W0) HB0.out hb1).set 8 _).set 9 _
  have HS : Hid (AS own0 w0 (pES K hK s pb mb cb x g r R) ((w1.setCell ⟨p4, 8, none⟩ (.int .i64 er)).setCell ⟨p4, 9, none⟩ (.int .i64 ek))) := show AS _ _ _ _ from by
    have h1 := HS0.out.more hb1
    exact ⟨h1.h.chg hc1 (fun k hk e => by have := HP4.out k hk; omega), h1.chg.trans hc1 (fun k hk e => by
      have h2 := HW0.out; omega), h1.new⟩
  generalize (w1.setCell ⟨p4, 8, none⟩ (.int .i64 er)).setCell ⟨p4, 9, none⟩ (.int .i64 ek) = W at *
  clear hc1 hb1 s8 s9 f8 f9 hq6 c0 c1 HOW
  have q1 : W.cell? ⟨p4, 1, none⟩ = some (.int .i64 kind) := HB4.out.cell 1
  have hlt4W : p4 < W.heap.size := HB4.out.lt
  clear HS0 HB0 hlt4
  go_upto_region 26 with fail
  have HSR : Hid (AS own0 w0 (rowE L 56 6 (Value.slice none 0 0) ([] : List Ac).length (flatA ([] : List Ac)) :: pES K hK s pb mb cb x g r R) W) := pES.rowT (x := x) (v := .slice none 0 0) (b0 := W.heap.size) HS.out (fun k hk => (HS.out.h.typ hk).2) (pES.lw HS.out).2 (pES.lw HS.out).1 (World.ownsRow_nil _ _ _ _)
  have HO2 : Hid (W.ownsRow 0 117 6 (.slice none 0 0) ([] : List Ac).length (flatA [])) := World.ownsRow_nil _ _ _ _
  clear HS q1 k1 k2 k3 k4 k5 k6
  go_wp2_with (first
    | (go_at_call 53; refine Calls.mono (same_any _ (show W.ownsRow L 56 6 (.slice none 0 0) _ _ from HSR.out.head) HO2.out) ?_; rintro e w6 ⟨rfl, hb6⟩; have HS6 : Hid _ := HSR.out.more hb6; clear hb6)
    | (go_at_call 54; refine Calls.mono (pES.putA HS6.out HLN.out (by have := HCN.out; omega)) ?_; rintro e w7 ⟨rfl, s7, hs7, hc7⟩; have HS7 : Hid _ := hs7; have HC7 : Hid _ := hc7; clear hs7 hc7)
    | (go_at_call 55; refine Calls.mono (looks_any w7 HS7.out HA2.out HX2.out (pES.lw HS7.out).1 (pES.lw HS7.out).2 (by have := HCN.out; have := HC7.out; omega)) ?_; rintro e w8 ⟨rfl, s8, hs8, hc8⟩; have HS8 : Hid _ := hs8; have HC8 : Hid _ := hc8; clear hs8 hc8)
    | fail)
  go_ret
  exact ⟨rfl, s8, _, HS8.out, by have := HC7.out; have := HC8.out; omega⟩
end Go.Proofs.Ytjojhhkbebddmaa
