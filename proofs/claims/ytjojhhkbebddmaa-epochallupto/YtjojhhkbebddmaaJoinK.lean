import Derived.Test.YtjojhhkbebddmaaL7
namespace Go.Proofs.Ytjojhhkbebddmaa
open Go.RowKit Go.PlainAid
set_option linter.unusedVariables false
set_option linter.unusedSimpArgs false
set_option maxRecDepth 100000 in
set_option maxHeartbeats 12800000 in
theorem pl_0_false {σ : Type} {L kb pb mb cb : Nat} {K : Keeper σ L kb} {hK : KFr K} {s : σ} {x : EV} {g : RG} {r : RV} {R : List (Ent L)} {own0 : Nat → Prop} {w0 : World} (who lim rts hld frm a b c d er ek : Int) (all : Bool) (kind : Int) (k1 : (kind == 1) = false) (k2 : (kind == 2) = false) (k3 : (kind == 3) = false) (k4 : (kind == 4) = false) (k5 : (kind == 5) = false) (k6 : (kind == 6) = false) (w : World) (h : AS own0 w0 (pES K hK s pb mb cb x g r R) w) (ha : Agr x r) (hx : x.Nm) (hsz : r.sz ≤ 999999980) (hcnt : K.cnt s ≤ 999999999900) (hE : liveE x x.me = ⟨er, ek⟩) : Calls Try.prog 27 #[.pointer (some ⟨pb, 0, none⟩), .agg #[.int .i64 who, .int .i64 kind, .int .i64 lim, .int .i64 rts, .int .i64 hld, .bool all, .bool false, .int .i64 frm, .int .i64 a, .int .i64 b, .int .i64 c, .int .i64 d], .pointer (some ⟨kb, 0, none⟩)] w fun e w' => e = .returned (.bool true) ∧ ∃ s' g', AS own0 w0 (pES K hK s' pb mb cb x g' r R) w' ∧ K.cnt s' ≤ K.cnt s + 36 := by
  have HX : Hid _ := hx
  have HA : Hid _ := ha
  have HX2 : Hid (EV.Nm x) := hx
  have HA2 : Hid (Agr x r) := show Agr x r from ha
  have HLN : Hid (([] : List Ac).length ≤ 1000000) := show ([] : List Ac).length ≤ 1000000 from Nat.le_trans (show ([] : List Ac).length ≤ 3 from Nat.zero_le _) (by decide)
  have HSZ : Hid _ := hsz
  have HCN : Hid _ := hcnt
  have HLB : Hid _ := ha.lastB
  obtain ⟨p4, hp4⟩ : ∃ p, p = w.heap.size := ⟨_, rfl⟩
  have HP4 : Hid (∀ k, has (pES K hK s pb mb cb x g r R) k → k < p4) := show ∀ k, has (pES K hK s pb mb cb x g r R) k → k < p4 from fun k hk => by rw [hp4]; exact (h.h.typ hk).2
  have HPM : Hid (¬ mown mb cb p4) := show ¬ mown mb cb p4 from fun e => by have := HP4.out p4 (by unfold pES; rw [has_cons, has_cons, has_cons]; exact .inr (.inr (.inl e))); omega
  have HPR : Hid (¬ rown g p4) := show ¬ rown g p4 from fun e => by have := HP4.out p4 (by unfold pES; rw [has_cons, has_cons, has_cons, has_cons]; exact .inr (.inr (.inr (.inl e)))); omega
  have hbW : Below w.heap.size w (w.alloc (.cells #[.int .i64 who, .int .i64 kind, .int .i64 lim, .int .i64 rts, .int .i64 hld, .bool all, .bool false, .int .i64 frm, .int .i64 a, .int .i64 b, .int .i64 c, .int .i64 d] 78)) := (Below.refl _ _).alloc (Nat.le_refl _) _
  have HS0 : Hid (AS own0 w0 (pES K hK s pb mb cb x g r R) (w.alloc (.cells #[.int .i64 who, .int .i64 kind, .int .i64 lim, .int .i64 rts, .int .i64 hld, .bool all, .bool false, .int .i64 frm, .int .i64 a, .int .i64 b, .int .i64 c, .int .i64 d] 78))) := h.more hbW
  have HB0 : Hid (Blk (w.alloc (.cells #[.int .i64 who, .int .i64 kind, .int .i64 lim, .int .i64 rts, .int .i64 hld, .bool all, .bool false, .int .i64 frm, .int .i64 a, .int .i64 b, .int .i64 c, .int .i64 d] 78)) p4 #[.int .i64 who, .int .i64 kind, .int .i64 lim, .int .i64 rts, .int .i64 hld, .bool all, .bool false, .int .i64 frm, .int .i64 a, .int .i64 b, .int .i64 c, .int .i64 d] 78) := show Blk _ _ _ _ from by rw [hp4]; exact heap_alloc_new w _
  have hlt4 : p4 < (w.alloc (.cells #[.int .i64 who, .int .i64 kind, .int .i64 lim, .int .i64 rts, .int .i64 hld, .bool all, .bool false, .int .i64 frm, .int .i64 a, .int .i64 b, .int .i64 c, .int .i64 d] 78)).heap.size := HB0.out.lt
  clear h ha hx hsz hcnt hbW hE
  unfold epV at *
  go_enter Try.func27, Try.ntmps27
  go_upto_region 1 with fail
  try rw [← hp4]
  clear hp4
  generalize w.alloc (.cells #[.int .i64 who, .int .i64 kind, .int .i64 lim, .int .i64 rts, .int .i64 hld, .bool all, .bool false, .int .i64 frm, .int .i64 a, .int .i64 b, .int .i64 c, .int .i64 d] 78) = W0 at *
  have hq6 : W0.cell? ⟨p4, 6, none⟩ = some (.bool false) := HB0.out.cell 6
  obtain ⟨c0, c1⟩ := pES.cl HS0.out
  go_upto_region 3 with fail
  have HB4 : Hid (Blk W0 p4 #[.int .i64 who, .int .i64 kind, .int .i64 lim, .int .i64 rts, .int .i64 hld, .bool all, .bool false, .int .i64 frm, .int .i64 a, .int .i64 b, .int .i64 c, .int .i64 d] 78) := HB0.out
  have HS : Hid (AS own0 w0 (pES K hK s pb mb cb x g r R) W0) := HS0.out
  clear hq6 c0 c1
  have hWW : ∃ W, W = W0 := ⟨_, rfl⟩
  obtain ⟨W, hWW⟩ := hWW
  subst hWW
  have q1 : W.cell? ⟨p4, 1, none⟩ = some (.int .i64 kind) := HB4.out.cell 1
  have hlt4W : p4 < W.heap.size := HB4.out.lt
  clear HS0 HB0 hlt4
  go_upto_region 26 with fail
  have HSR : Hid (AS own0 w0 (rowE L 56 6 (Value.slice none 0 0) ([] : List Ac).length (flatA ([] : List Ac)) :: pES K hK s pb mb cb x g r R) W) := pES.rowT (x := x) (v := .slice none 0 0) (b0 := W.heap.size) HS.out (fun k hk => (HS.out.h.typ hk).2) (pES.lw HS.out).2 (pES.lw HS.out).1 (World.ownsRow_nil _ _ _ _)
  have HO2 : Hid (W.ownsRow 0 117 6 (.slice none 0 0) ([] : List Ac).length (flatA [])) := World.ownsRow_nil _ _ _ _
  clear HS q1 k1 k2 k3 k4 k5 k6
  go_wp2_with (first
    | (go_at_call 53; refine Calls.mono (same_any _ (show W.ownsRow L 56 6 (.slice none 0 0) _ _ from HSR.out.head) HO2.out) ?_; rintro e w6 ⟨rfl, hb6⟩; have HS6 : Hid _ := HSR.out.more hb6; clear hb6)
    | (go_at_call 54; refine Calls.mono (pES.putA HS6.out HLN.out (by have := HCN.out; omega)) ?_; rintro e w7 ⟨rfl, s7, hs7, hc7⟩; have HS7 : Hid _ := hs7; have HC7 : Hid _ := hc7; clear hs7 hc7)
    | (go_at_call 55; refine Calls.mono (looks_any w7 HS7.out HA2.out HX2.out (pES.lw HS7.out).1 (pES.lw HS7.out).2 (by have := HCN.out; have := HC7.out; omega)) ?_; rintro e w8 ⟨rfl, s8, hs8, hc8⟩; have HS8 : Hid _ := hs8; have HC8 : Hid _ := hc8; clear hs8 hc8)
    | fail)
  go_ret
  exact ⟨rfl, s8, _, HS8.out, by have := HC7.out; have := HC8.out; omega⟩
set_option maxRecDepth 100000 in
set_option maxHeartbeats 12800000 in
theorem pl_0_true {σ : Type} {L kb pb mb cb : Nat} {K : Keeper σ L kb} {hK : KFr K} {s : σ} {x : EV} {g : RG} {r : RV} {R : List (Ent L)} {own0 : Nat → Prop} {w0 : World} (who lim rts hld frm a b c d er ek : Int) (all : Bool) (kind : Int) (k1 : (kind == 1) = false) (k2 : (kind == 2) = false) (k3 : (kind == 3) = false) (k4 : (kind == 4) = false) (k5 : (kind == 5) = false) (k6 : (kind == 6) = false) (w : World) (h : AS own0 w0 (pES K hK s pb mb cb x g r R) w) (ha : Agr x r) (hx : x.Nm) (hsz : r.sz ≤ 999999980) (hcnt : K.cnt s ≤ 999999999900) (hE : liveE x x.me = ⟨er, ek⟩) : Calls Try.prog 27 #[.pointer (some ⟨pb, 0, none⟩), .agg #[.int .i64 who, .int .i64 kind, .int .i64 lim, .int .i64 rts, .int .i64 hld, .bool all, .bool true, .int .i64 frm, .int .i64 a, .int .i64 b, .int .i64 c, .int .i64 d], .pointer (some ⟨kb, 0, none⟩)] w fun e w' => e = .returned (.bool true) ∧ ∃ s' g', AS own0 w0 (pES K hK s' pb mb cb x g' r R) w' ∧ K.cnt s' ≤ K.cnt s + 36 := by
  have HX : Hid _ := hx
  have HA : Hid _ := ha
  have HX2 : Hid (EV.Nm x) := hx
  have HA2 : Hid (Agr x r) := show Agr x r from ha
  have HLN : Hid (([] : List Ac).length ≤ 1000000) := show ([] : List Ac).length ≤ 1000000 from Nat.le_trans (show ([] : List Ac).length ≤ 3 from Nat.zero_le _) (by decide)
  have HSZ : Hid _ := hsz
  have HCN : Hid _ := hcnt
  have HLB : Hid _ := ha.lastB
  obtain ⟨p4, hp4⟩ : ∃ p, p = w.heap.size := ⟨_, rfl⟩
  have HP4 : Hid (∀ k, has (pES K hK s pb mb cb x g r R) k → k < p4) := show ∀ k, has (pES K hK s pb mb cb x g r R) k → k < p4 from fun k hk => by rw [hp4]; exact (h.h.typ hk).2
  have HPM : Hid (¬ mown mb cb p4) := show ¬ mown mb cb p4 from fun e => by have := HP4.out p4 (by unfold pES; rw [has_cons, has_cons, has_cons]; exact .inr (.inr (.inl e))); omega
  have HPR : Hid (¬ rown g p4) := show ¬ rown g p4 from fun e => by have := HP4.out p4 (by unfold pES; rw [has_cons, has_cons, has_cons, has_cons]; exact .inr (.inr (.inr (.inl e)))); omega
  have hbW : Below w.heap.size w (w.alloc (.cells #[.int .i64 who, .int .i64 kind, .int .i64 lim, .int .i64 rts, .int .i64 hld, .bool all, .bool true, .int .i64 frm, .int .i64 a, .int .i64 b, .int .i64 c, .int .i64 d] 78)) := (Below.refl _ _).alloc (Nat.le_refl _) _
  have HS0 : Hid (AS own0 w0 (pES K hK s pb mb cb x g r R) (w.alloc (.cells #[.int .i64 who, .int .i64 kind, .int .i64 lim, .int .i64 rts, .int .i64 hld, .bool all, .bool true, .int .i64 frm, .int .i64 a, .int .i64 b, .int .i64 c, .int .i64 d] 78))) := h.more hbW
  have HB0 : Hid (Blk (w.alloc (.cells #[.int .i64 who, .int .i64 kind, .int .i64 lim, .int .i64 rts, .int .i64 hld, .bool all, .bool true, .int .i64 frm, .int .i64 a, .int .i64 b, .int .i64 c, .int .i64 d] 78)) p4 #[.int .i64 who, .int .i64 kind, .int .i64 lim, .int .i64 rts, .int .i64 hld, .bool all, .bool true, .int .i64 frm, .int .i64 a, .int .i64 b, .int .i64 c, .int .i64 d] 78) := show Blk _ _ _ _ from by rw [hp4]; exact heap_alloc_new w _
  have hlt4 : p4 < (w.alloc (.cells #[.int .i64 who, .int .i64 kind, .int .i64 lim, .int .i64 rts, .int .i64 hld, .bool all, .bool true, .int .i64 frm, .int .i64 a, .int .i64 b, .int .i64 c, .int .i64 d] 78)).heap.size := HB0.out.lt
  have HOW : Hid (∀ W, AS own0 w0 (pES K hK s pb mb cb x g r R) W → Calls Try.prog 46 #[.pointer (some ⟨g.rb, 0, none⟩)] W fun e w' => e = .returned (epV ⟨er, ek⟩) ∧ Below W.heap.size W w') := fun W hW => by rw [← hE]; exact rown_any W (pES.rm hW) ha hx
  have HW0 : Hid (w0.heap.size ≤ p4) := show w0.heap.size ≤ p4 from by rw [hp4]; exact h.chg.size
  clear h ha hx hsz hcnt hbW hE
  unfold epV at *
  go_enter Try.func27, Try.ntmps27
  go_upto_region 1 with fail
  try rw [← hp4]
  clear hp4
  generalize w.alloc (.cells #[.int .i64 who, .int .i64 kind, .int .i64 lim, .int .i64 rts, .int .i64 hld, .bool all, .bool true, .int .i64 frm, .int .i64 a, .int .i64 b, .int .i64 c, .int .i64 d] 78) = W0 at *
  have hq6 : W0.cell? ⟨p4, 6, none⟩ = some (.bool true) := HB0.out.cell 6
  obtain ⟨c0, c1⟩ := pES.cl HS0.out
  go_upto_region 3 with (first
    | (go_at_call 46; refine Calls.mono (HOW.out _ HS0.out) ?_; rintro e w1 ⟨rfl, hb1⟩; have hB1 := Blk.up (w := W0) HB0.out hb1; have s8 := hB1.cell 8; have s9 := hB1.cell 9; have f8 := hB1.frozen 8; have f9 := hB1.frozen 9; clear hB1)
    | fail)
  have hc1 : Chg (fun k => k = p4) w1 ((w1.setCell ⟨p4, 8, none⟩ (.int .i64 er)).setCell ⟨p4, 9, none⟩ (.int .i64 ek)) := (setCell_chg _ _ _ _).trans (setCell_chg _ _ _ _) (fun _ _ e => e)
  have HB4 : Hid (Blk ((w1.setCell ⟨p4, 8, none⟩ (.int .i64 er)).setCell ⟨p4, 9, none⟩ (.int .i64 ek)) p4 #[.int .i64 who, .int .i64 kind, .int .i64 lim, .int .i64 rts, .int .i64 hld, .bool all, .bool true, .int .i64 frm, .int .i64 er, .int .i64 ek, .int .i64 c, .int .i64 d] 78) := show Blk _ _ _ _ from ((Blk.up (w := W0) HB0.out hb1).set 8 _).set 9 _
  have HS : Hid (AS own0 w0 (pES K hK s pb mb cb x g r R) ((w1.setCell ⟨p4, 8, none⟩ (.int .i64 er)).setCell ⟨p4, 9, none⟩ (.int .i64 ek))) := show AS _ _ _ _ from by
    have h1 := HS0.out.more hb1
    exact ⟨h1.h.chg hc1 (fun k hk e => by have := HP4.out k hk; omega), h1.chg.trans hc1 (fun k hk e => by
      have h2 := HW0.out; omega), h1.new⟩
  generalize (w1.setCell ⟨p4, 8, none⟩ (.int .i64 er)).setCell ⟨p4, 9, none⟩ (.int .i64 ek) = W at *
  clear hc1 hb1 s8 s9 f8 f9 hq6 c0 c1 HOW
  have q1 : W.cell? ⟨p4, 1, none⟩ = some (.int .i64 kind) := HB4.out.cell 1
  have hlt4W : p4 < W.heap.size := HB4.out.lt
  clear HS0 HB0 hlt4
  go_upto_region 26 with fail
  have HSR : Hid (AS own0 w0 (rowE L 56 6 (Value.slice none 0 0) ([] : List Ac).length (flatA ([] : List Ac)) :: pES K hK s pb mb cb x g r R) W) := pES.rowT (x := x) (v := .slice none 0 0) (b0 := W.heap.size) HS.out (fun k hk => (HS.out.h.typ hk).2) (pES.lw HS.out).2 (pES.lw HS.out).1 (World.ownsRow_nil _ _ _ _)
  have HO2 : Hid (W.ownsRow 0 117 6 (.slice none 0 0) ([] : List Ac).length (flatA [])) := World.ownsRow_nil _ _ _ _
  clear HS q1 k1 k2 k3 k4 k5 k6
  go_wp2_with (first
    | (go_at_call 53; refine Calls.mono (same_any _ (show W.ownsRow L 56 6 (.slice none 0 0) _ _ from HSR.out.head) HO2.out) ?_; rintro e w6 ⟨rfl, hb6⟩; have HS6 : Hid _ := HSR.out.more hb6; clear hb6)
    | (go_at_call 54; refine Calls.mono (pES.putA HS6.out HLN.out (by have := HCN.out; omega)) ?_; rintro e w7 ⟨rfl, s7, hs7, hc7⟩; have HS7 : Hid _ := hs7; have HC7 : Hid _ := hc7; clear hs7 hc7)
    | (go_at_call 55; refine Calls.mono (looks_any w7 HS7.out HA2.out HX2.out (pES.lw HS7.out).1 (pES.lw HS7.out).2 (by have := HCN.out; have := HC7.out; omega)) ?_; rintro e w8 ⟨rfl, s8, hs8, hc8⟩; have HS8 : Hid _ := hs8; have HC8 : Hid _ := hc8; clear hs8 hc8)
    | fail)
  go_ret
  exact ⟨rfl, s8, _, HS8.out, by have := HC7.out; have := HC8.out; omega⟩
end Go.Proofs.Ytjojhhkbebddmaa
namespace Go.Proofs.Ytjojhhkbebddmaa
open Go.RowKit Go.PlainAid
set_option linter.unusedVariables false
set_option linter.unusedSimpArgs false
set_option maxRecDepth 100000 in
set_option maxHeartbeats 12800000 in
theorem pl_1_false {σ : Type} {L kb pb mb cb : Nat} {K : Keeper σ L kb} {hK : KFr K} {s : σ} {x : EV} {g : RG} {r : RV} {R : List (Ent L)} {own0 : Nat → Prop} {w0 : World} (who lim rts hld frm a b c d er ek : Int) (all : Bool) (w : World) (h : AS own0 w0 (pES K hK s pb mb cb x g r R) w) (ha : Agr x r) (hx : x.Nm) (hsz : r.sz ≤ 999999980) (hcnt : K.cnt s ≤ 999999999900) (hE : liveE x x.me = ⟨er, ek⟩) : Calls Try.prog 27 #[.pointer (some ⟨pb, 0, none⟩), .agg #[.int .i64 who, .int .i64 1, .int .i64 lim, .int .i64 rts, .int .i64 hld, .bool all, .bool false, .int .i64 frm, .int .i64 a, .int .i64 b, .int .i64 c, .int .i64 d], .pointer (some ⟨kb, 0, none⟩)] w fun e w' => e = .returned (.bool true) ∧ ∃ s' g', AS own0 w0 (pES K hK s' pb mb cb (begX x lim rts hld all) g' (begR x r lim rts hld all) R) w' ∧ K.cnt s' ≤ K.cnt s + 36 := by
  have HX : Hid _ := hx
  have HA : Hid _ := ha
  have HX2 : Hid (EV.Nm (begX x lim rts hld all)) := begX_nm hx lim rts hld all
  have HA2 : Hid (Agr (begX x lim rts hld all) (begR x r lim rts hld all)) := show Agr (begX x lim rts hld all) (begR x r lim rts hld all) from ha.beg hx lim rts hld all
  have HLN : Hid ((begA x lim rts hld all).length ≤ 1000000) := show (begA x lim rts hld all).length ≤ 1000000 from Nat.le_trans (begA_len x lim rts hld all) (by decide)
  have HSZ : Hid _ := hsz
  have HCN : Hid _ := hcnt
  have HLB : Hid _ := ha.lastB
  obtain ⟨p4, hp4⟩ : ∃ p, p = w.heap.size := ⟨_, rfl⟩
  have HP4 : Hid (∀ k, has (pES K hK s pb mb cb x g r R) k → k < p4) := show ∀ k, has (pES K hK s pb mb cb x g r R) k → k < p4 from fun k hk => by rw [hp4]; exact (h.h.typ hk).2
  have HPM : Hid (¬ mown mb cb p4) := show ¬ mown mb cb p4 from fun e => by have := HP4.out p4 (by unfold pES; rw [has_cons, has_cons, has_cons]; exact .inr (.inr (.inl e))); omega
  have HPR : Hid (¬ rown g p4) := show ¬ rown g p4 from fun e => by have := HP4.out p4 (by unfold pES; rw [has_cons, has_cons, has_cons, has_cons]; exact .inr (.inr (.inr (.inl e)))); omega
  have hbW : Below w.heap.size w (w.alloc (.cells #[.int .i64 who, .int .i64 1, .int .i64 lim, .int .i64 rts, .int .i64 hld, .bool all, .bool false, .int .i64 frm, .int .i64 a, .int .i64 b, .int .i64 c, .int .i64 d] 78)) := (Below.refl _ _).alloc (Nat.le_refl _) _
  have HS0 : Hid (AS own0 w0 (pES K hK s pb mb cb x g r R) (w.alloc (.cells #[.int .i64 who, .int .i64 1, .int .i64 lim, .int .i64 rts, .int .i64 hld, .bool all, .bool false, .int .i64 frm, .int .i64 a, .int .i64 b, .int .i64 c, .int .i64 d] 78))) := h.more hbW
  have HB0 : Hid (Blk (w.alloc (.cells #[.int .i64 who, .int .i64 1, .int .i64 lim, .int .i64 rts, .int .i64 hld, .bool all, .bool false, .int .i64 frm, .int .i64 a, .int .i64 b, .int .i64 c, .int .i64 d] 78)) p4 #[.int .i64 who, .int .i64 1, .int .i64 lim, .int .i64 rts, .int .i64 hld, .bool all, .bool false, .int .i64 frm, .int .i64 a, .int .i64 b, .int .i64 c, .int .i64 d] 78) := show Blk _ _ _ _ from by rw [hp4]; exact heap_alloc_new w _
  have hlt4 : p4 < (w.alloc (.cells #[.int .i64 who, .int .i64 1, .int .i64 lim, .int .i64 rts, .int .i64 hld, .bool all, .bool false, .int .i64 frm, .int .i64 a, .int .i64 b, .int .i64 c, .int .i64 d] 78)).heap.size := HB0.out.lt
  clear h ha hx hsz hcnt hbW hE
  unfold epV at *
  go_enter Try.func27, Try.ntmps27
  go_upto_region 1 with fail
  try rw [← hp4]
  clear hp4
  generalize w.alloc (.cells #[.int .i64 who, .int .i64 1, .int .i64 lim, .int .i64 rts, .int .i64 hld, .bool all, .bool false, .int .i64 frm, .int .i64 a, .int .i64 b, .int .i64 c, .int .i64 d] 78) = W0 at *
  have hq6 : W0.cell? ⟨p4, 6, none⟩ = some (.bool false) := HB0.out.cell 6
  obtain ⟨c0, c1⟩ := pES.cl HS0.out
  go_upto_region 3 with fail
  have HB4 : Hid (Blk W0 p4 #[.int .i64 who, .int .i64 1, .int .i64 lim, .int .i64 rts, .int .i64 hld, .bool all, .bool false, .int .i64 frm, .int .i64 a, .int .i64 b, .int .i64 c, .int .i64 d] 78) := HB0.out
  have HS : Hid (AS own0 w0 (pES K hK s pb mb cb x g r R) W0) := HS0.out
  clear hq6 c0 c1
  have hWW : ∃ W, W = W0 := ⟨_, rfl⟩
  obtain ⟨W, hWW⟩ := hWW
  subst hWW
  have q1 : W.cell? ⟨p4, 1, none⟩ = some (.int .i64 1) := HB4.out.cell 1
  have hlt4W : p4 < W.heap.size := HB4.out.lt
  clear HS0 HB0 hlt4
  go_upto_region 9 with fail
  rename_i K1 hK1
  try rw [show ∀ a : Act, a.put none undef = a from fun _ => rfl]
  have hDR : Below W.heap.size W ({ W with drawn := W.drawn + 1 } : World) := (Below.refl _ _).drew
  have HSD : Hid (AS own0 w0 (pES K hK s pb mb cb x g r R) ({ W with drawn := W.drawn + 1 } : World)) := HS.out.more hDR
  have HC0 : (fun wz : World => wz.cell? ⟨pb, 0, none⟩ = some (.pointer (some ⟨mb, 0, none⟩)) ∧ wz.cell? ⟨pb, 1, none⟩ = some (.pointer (some ⟨g.rb, 0, none⟩)) ∧ Blk wz p4 #[.int .i64 who, .int .i64 1, .int .i64 lim, .int .i64 rts, .int .i64 hld, .bool all, .bool false, .int .i64 frm, .int .i64 a, .int .i64 b, .int .i64 c, .int .i64 d] 78) ({ W with drawn := W.drawn + 1 } : World) := ⟨(pES.cl HSD.out).1, (pES.cl HSD.out).2, Blk.up (w := W) HB4.out hDR⟩
  refine wp_region_mix (fun wz : World => wz.cell? ⟨pb, 0, none⟩ = some (.pointer (some ⟨mb, 0, none⟩)) ∧ wz.cell? ⟨pb, 1, none⟩ = some (.pointer (some ⟨g.rb, 0, none⟩)) ∧ Blk wz p4 #[.int .i64 who, .int .i64 1, .int .i64 lim, .int .i64 rts, .int .i64 hld, .bool all, .bool false, .int .i64 frm, .int .i64 a, .int .i64 b, .int .i64 c, .int .i64 d] 78) (fun i => i == 12 || i == 17) 17 (by kernel_rfl) rfl (by kernel_rfl) (by kernel_rfl) (by kernel_rfl) ?_
  refine withFrP (N := 169) rfl ?_
  intro f0 F0 hff
  have ee0 : f0 0 = Value.pointer (some ⟨pb, 0, none⟩) := hff 0
  have ee4 : f0 4 = Value.pointer (some ⟨p4, 0, none⟩) := hff 4
  clear hff
  refine lyp F0 rfl HC0 rfl (by omega) (wanted_none rfl) (v := Value.pointer (some ⟨pb, 0, none⟩)) (fun wr hwr => by simp only [execOp, (F0.eval 0 (by omega)).trans (show _ = Value.pointer (some ⟨pb, 0, none⟩) from by simp [upd, ee0, ee4])]; first | rfl | simp [go_sem]) fun F1 => ?_
  refine lyp F1 rfl HC0 rfl (by omega) (wanted_none rfl) (v := Value.pointer (some ⟨pb, 0, none⟩)) (fun wr hwr => by simp only [execOp, (F1.eval 25 (by omega)).trans (show _ = Value.pointer (some ⟨pb, 0, none⟩) from by simp [upd, ee0, ee4])]; simp [go_sem]) fun F2 => ?_
  refine lyp F2 rfl HC0 rfl (by omega) (wanted_none rfl) (v := Value.pointer (some ⟨pb, 0, none⟩)) (fun wr hwr => by simp only [execOp, (F2.eval 26 (by omega)).trans (show _ = Value.pointer (some ⟨pb, 0, none⟩) from by simp [upd, ee0, ee4])]; simp [go_sem]) fun F3 => ?_
  refine lyp F3 rfl HC0 rfl (by omega) (wanted_none rfl) (v := Value.pointer (some ⟨mb, 0, none⟩)) (fun wr hwr => by simp only [execOp, (F3.eval 27 (by omega)).trans (show _ = Value.pointer (some ⟨pb, 0, none⟩) from by simp [upd, ee0, ee4])]; simp [go_sem, hwr.1]) fun F4 => ?_
  refine lyp F4 rfl HC0 rfl (by omega) (wanted_none rfl) (v := Value.pointer (some ⟨p4, 2, none⟩)) (fun wr hwr => by simp only [execOp, (F4.eval 4 (by omega)).trans (show _ = Value.pointer (some ⟨p4, 0, none⟩) from by simp [upd, ee0, ee4])]; simp [go_sem]) fun F5 => ?_
  refine lyp F5 rfl HC0 rfl (by omega) (wanted_none rfl) (v := Value.int .i64 lim) (fun wr hwr => by simp only [execOp, (F5.eval 29 (by omega)).trans (show _ = Value.pointer (some ⟨p4, 2, none⟩) from by simp [upd, ee0, ee4])]; simp [go_sem, (hwr.2.2.cell 2)]) fun F6 => ?_
  refine lyp F6 rfl HC0 rfl (by omega) (wanted_none rfl) (v := Value.pointer (some ⟨p4, 3, none⟩)) (fun wr hwr => by simp only [execOp, (F6.eval 4 (by omega)).trans (show _ = Value.pointer (some ⟨p4, 0, none⟩) from by simp [upd, ee0, ee4])]; simp [go_sem]) fun F7 => ?_
  refine lyp F7 rfl HC0 rfl (by omega) (wanted_none rfl) (v := Value.int .i64 rts) (fun wr hwr => by simp only [execOp, (F7.eval 31 (by omega)).trans (show _ = Value.pointer (some ⟨p4, 3, none⟩) from by simp [upd, ee0, ee4])]; simp [go_sem, (hwr.2.2.cell 3)]) fun F8 => ?_
  refine lyp F8 rfl HC0 rfl (by omega) (wanted_none rfl) (v := Value.pointer (some ⟨p4, 4, none⟩)) (fun wr hwr => by simp only [execOp, (F8.eval 4 (by omega)).trans (show _ = Value.pointer (some ⟨p4, 0, none⟩) from by simp [upd, ee0, ee4])]; simp [go_sem]) fun F9 => ?_
  refine lyp F9 rfl HC0 rfl (by omega) (wanted_none rfl) (v := Value.int .i64 hld) (fun wr hwr => by simp only [execOp, (F9.eval 33 (by omega)).trans (show _ = Value.pointer (some ⟨p4, 4, none⟩) from by simp [upd, ee0, ee4])]; simp [go_sem, (hwr.2.2.cell 4)]) fun F10 => ?_
  refine lyp F10 rfl HC0 rfl (by omega) (wanted_none rfl) (v := Value.pointer (some ⟨p4, 5, none⟩)) (fun wr hwr => by simp only [execOp, (F10.eval 4 (by omega)).trans (show _ = Value.pointer (some ⟨p4, 0, none⟩) from by simp [upd, ee0, ee4])]; simp [go_sem]) fun F11 => ?_
  refine lyp F11 rfl HC0 rfl (by omega) (wanted_none rfl) (v := Value.bool all) (fun wr hwr => by simp only [execOp, (F11.eval 35 (by omega)).trans (show _ = Value.pointer (some ⟨p4, 5, none⟩) from by simp [upd, ee0, ee4])]; simp [go_sem, (hwr.2.2.cell 5)]) fun F12 => ?_
  refine lcp F12 rfl HC0 rfl (by omega) (wanted_none rfl) (g := 17) (args := #[Value.pointer (some ⟨mb, 0, none⟩), Value.int .i64 lim, Value.int .i64 rts, Value.int .i64 hld, Value.bool all]) (by simp only [execOp, resolve, invoke, List.map_toArray, List.map_cons, List.map_nil, (F12.eval 28 (by omega)).trans (show _ = Value.pointer (some ⟨mb, 0, none⟩) from by simp [upd, ee0, ee4]), (F12.eval 30 (by omega)).trans (show _ = Value.int .i64 lim from by simp [upd, ee0, ee4]), (F12.eval 32 (by omega)).trans (show _ = Value.int .i64 rts from by simp [upd, ee0, ee4]), (F12.eval 34 (by omega)).trans (show _ = Value.int .i64 hld from by simp [upd, ee0, ee4]), (F12.eval 36 (by omega)).trans (show _ = Value.bool all from by simp [upd, ee0, ee4])]; simp [go_sem, Act.eval]) (begin_any lim rts hld all _ (pES.mm HSD.out) HX.out HLB.out) ?_
  rintro e w9 ⟨v1, rfl, ho1, hm1, hc1⟩
  have HS9 : Hid (AS own0 w0 (rowE L 56 6 v1 (begA x lim rts hld all).length (flatA (begA x lim rts hld all)) :: pES K hK s pb mb cb (begX x lim rts hld all) g r R) w9) := pES.step HSD.out ho1 hm1 hc1
  have HC9 : (fun wz : World => wz.cell? ⟨pb, 0, none⟩ = some (.pointer (some ⟨mb, 0, none⟩)) ∧ wz.cell? ⟨pb, 1, none⟩ = some (.pointer (some ⟨g.rb, 0, none⟩)) ∧ Blk wz p4 #[.int .i64 who, .int .i64 1, .int .i64 lim, .int .i64 rts, .int .i64 hld, .bool all, .bool false, .int .i64 frm, .int .i64 a, .int .i64 b, .int .i64 c, .int .i64 d] 78) w9 := ⟨(pES.cl HS9.out.drop).1, (pES.cl HS9.out.drop).2, hc1.blk (Blk.up (w := W) HB4.out hDR) HPM.out⟩
  have HBN : Hid (Blk w9 p4 #[.int .i64 who, .int .i64 1, .int .i64 lim, .int .i64 rts, .int .i64 hld, .bool all, .bool false, .int .i64 frm, .int .i64 a, .int .i64 b, .int .i64 c, .int .i64 d] 78) := HC9.2.2
  refine ⟨_, rfl, fun F13 => ?_⟩
  refine lyp F13 rfl HC9 rfl (by omega) (wanted_none rfl) (v := Value.tuple #[v1, .int .i64 (begC x lim rts hld)]) (fun wr hwr => by simp only [execOp, (F13.eval 37 (by omega)).trans (show _ = Value.tuple #[v1, .int .i64 (begC x lim rts hld)] from by simp [upd, ee0, ee4])]; first | rfl | simp [go_sem]) fun F14 => ?_
  refine lyp F14 rfl HC9 rfl (by omega) (wanted_none rfl) (v := v1) (fun wr hwr => by simp only [execOp, (F14.eval 24 (by omega)).trans (show _ = Value.tuple #[v1, .int .i64 (begC x lim rts hld)] from by simp [upd, ee0, ee4])]; simp [go_sem]) fun F15 => ?_
  refine lyp F15 rfl HC9 rfl (by omega) (wanted_none rfl) (v := Value.int .i64 (begC x lim rts hld)) (fun wr hwr => by simp only [execOp, (F15.eval 24 (by omega)).trans (show _ = Value.tuple #[v1, .int .i64 (begC x lim rts hld)] from by simp [upd, ee0, ee4])]; simp [go_sem]) fun F16 => ?_
  refine lyp F16 rfl HC9 rfl (by omega) (wanted_none rfl) (v := v1) (fun wr hwr => by simp only [execOp, (F16.eval 38 (by omega)).trans (show _ = v1 from by simp [upd, ee0, ee4])]; first | rfl | simp [go_sem]) fun F17 => ?_
  refine lep F17 rfl HC9 rfl (by omega) (wanted_none rfl) (v := Value.int .i64 (begC x lim rts hld)) (w1 := w9) (by simp only [execOp, (F17.eval 39 (by omega)).trans (show _ = Value.int .i64 (begC x lim rts hld) from by simp [upd, ee0, ee4])]; first | rfl | simp [go_sem]) fun F18 => ?_
  refine ⟨fun h => by omega, ?_⟩
  refine hK1 _ _ ?_
  clear F0 F1 F2 F3 F4 F5 F6 F7 F8 F9 F10 F11 F12 F13 F14 F15 F16 F17 F18 ee0 ee4 HC0 HC9 hDR
  simp only [Act.put, List.setIfInBounds_toArray, List.set_cons_succ, List.set_cons_zero]
  have HB4 : Hid (Blk w9 p4 #[.int .i64 who, .int .i64 1, .int .i64 lim, .int .i64 rts, .int .i64 hld, .bool all, .bool false, .int .i64 frm, .int .i64 a, .int .i64 b, .int .i64 c, .int .i64 d] 78) := HBN.out
  have hltw : p4 < w9.heap.size := HB4.out.lt
  have HSA : Hid (AS own0 w0 (rowE L 56 6 v1 (begA x lim rts hld all).length (flatA (begA x lim rts hld all)) :: pES K hK s pb mb cb (begX x lim rts hld all) g r R) w9) := HS9.out
  clear HBN HS9 HSD HS hc1 hm1 ho1 q1
  obtain ⟨w3, hw3⟩ : ∃ W, W = w9 := ⟨_, rfl⟩
  subst hw3
  go_upto_region 10 with fail
  try rw [show ∀ a : Act, a.put none undef = a from fun _ => rfl]
  have hDR : Below w3.heap.size w3 ({ w3 with drawn := w3.drawn + 1 } : World) := (Below.refl _ _).drew
  have HSD : Hid (AS own0 w0 (rowE L 56 6 v1 (begA x lim rts hld all).length (flatA (begA x lim rts hld all)) :: pES K hK s pb mb cb (begX x lim rts hld all) g r R) ({ w3 with drawn := w3.drawn + 1 } : World)) := HSA.out.more hDR
  have HC0 : (fun wz : World => wz.cell? ⟨pb, 0, none⟩ = some (.pointer (some ⟨mb, 0, none⟩)) ∧ wz.cell? ⟨pb, 1, none⟩ = some (.pointer (some ⟨g.rb, 0, none⟩)) ∧ Blk wz p4 #[.int .i64 who, .int .i64 1, .int .i64 lim, .int .i64 rts, .int .i64 hld, .bool all, .bool false, .int .i64 frm, .int .i64 a, .int .i64 b, .int .i64 c, .int .i64 d] 78) ({ w3 with drawn := w3.drawn + 1 } : World) := ⟨(pES.cl HSD.out.drop).1, (pES.cl HSD.out.drop).2, Blk.up (w := w3) HB4.out hDR⟩
  refine wp_region_mix (fun wz : World => wz.cell? ⟨pb, 0, none⟩ = some (.pointer (some ⟨mb, 0, none⟩)) ∧ wz.cell? ⟨pb, 1, none⟩ = some (.pointer (some ⟨g.rb, 0, none⟩)) ∧ Blk wz p4 #[.int .i64 who, .int .i64 1, .int .i64 lim, .int .i64 rts, .int .i64 hld, .bool all, .bool false, .int .i64 frm, .int .i64 a, .int .i64 b, .int .i64 c, .int .i64 d] 78) (fun i => i == 12 || i == 17) 17 (by kernel_rfl) rfl (by kernel_rfl) (by kernel_rfl) (by kernel_rfl) ?_
  refine withFrP (N := 169) rfl ?_
  intro f0 F0 hff
  have ee0 : f0 0 = Value.pointer (some ⟨pb, 0, none⟩) := hff 0
  have ee4 : f0 4 = Value.pointer (some ⟨p4, 0, none⟩) := hff 4
  clear hff
  refine lyp F0 rfl HC0 rfl (by omega) (wanted_none rfl) (v := Value.pointer (some ⟨pb, 0, none⟩)) (fun wr hwr => by simp only [execOp, (F0.eval 0 (by omega)).trans (show _ = Value.pointer (some ⟨pb, 0, none⟩) from by simp [upd, ee0, ee4])]; first | rfl | simp [go_sem]) fun F1 => ?_
  refine lyp F1 rfl HC0 rfl (by omega) (wanted_none rfl) (v := Value.pointer (some ⟨pb, 0, none⟩)) (fun wr hwr => by simp only [execOp, (F1.eval 41 (by omega)).trans (show _ = Value.pointer (some ⟨pb, 0, none⟩) from by simp [upd, ee0, ee4])]; simp [go_sem]) fun F2 => ?_
  refine lyp F2 rfl HC0 rfl (by omega) (wanted_none rfl) (v := Value.pointer (some ⟨pb, 1, none⟩)) (fun wr hwr => by simp only [execOp, (F2.eval 42 (by omega)).trans (show _ = Value.pointer (some ⟨pb, 0, none⟩) from by simp [upd, ee0, ee4])]; simp [go_sem]) fun F3 => ?_
  refine lyp F3 rfl HC0 rfl (by omega) (wanted_none rfl) (v := Value.pointer (some ⟨g.rb, 0, none⟩)) (fun wr hwr => by simp only [execOp, (F3.eval 43 (by omega)).trans (show _ = Value.pointer (some ⟨pb, 1, none⟩) from by simp [upd, ee0, ee4])]; simp [go_sem, hwr.2.1]) fun F4 => ?_
  refine lyp F4 rfl HC0 rfl (by omega) (wanted_none rfl) (v := Value.pointer (some ⟨p4, 2, none⟩)) (fun wr hwr => by simp only [execOp, (F4.eval 4 (by omega)).trans (show _ = Value.pointer (some ⟨p4, 0, none⟩) from by simp [upd, ee0, ee4])]; simp [go_sem]) fun F5 => ?_
  refine lyp F5 rfl HC0 rfl (by omega) (wanted_none rfl) (v := Value.int .i64 lim) (fun wr hwr => by simp only [execOp, (F5.eval 45 (by omega)).trans (show _ = Value.pointer (some ⟨p4, 2, none⟩) from by simp [upd, ee0, ee4])]; simp [go_sem, (hwr.2.2.cell 2)]) fun F6 => ?_
  refine lyp F6 rfl HC0 rfl (by omega) (wanted_none rfl) (v := Value.pointer (some ⟨p4, 3, none⟩)) (fun wr hwr => by simp only [execOp, (F6.eval 4 (by omega)).trans (show _ = Value.pointer (some ⟨p4, 0, none⟩) from by simp [upd, ee0, ee4])]; simp [go_sem]) fun F7 => ?_
  refine lyp F7 rfl HC0 rfl (by omega) (wanted_none rfl) (v := Value.int .i64 rts) (fun wr hwr => by simp only [execOp, (F7.eval 47 (by omega)).trans (show _ = Value.pointer (some ⟨p4, 3, none⟩) from by simp [upd, ee0, ee4])]; simp [go_sem, (hwr.2.2.cell 3)]) fun F8 => ?_
  refine lyp F8 rfl HC0 rfl (by omega) (wanted_none rfl) (v := Value.pointer (some ⟨p4, 4, none⟩)) (fun wr hwr => by simp only [execOp, (F8.eval 4 (by omega)).trans (show _ = Value.pointer (some ⟨p4, 0, none⟩) from by simp [upd, ee0, ee4])]; simp [go_sem]) fun F9 => ?_
  refine lyp F9 rfl HC0 rfl (by omega) (wanted_none rfl) (v := Value.int .i64 hld) (fun wr hwr => by simp only [execOp, (F9.eval 49 (by omega)).trans (show _ = Value.pointer (some ⟨p4, 4, none⟩) from by simp [upd, ee0, ee4])]; simp [go_sem, (hwr.2.2.cell 4)]) fun F10 => ?_
  refine lyp F10 rfl HC0 rfl (by omega) (wanted_none rfl) (v := Value.pointer (some ⟨p4, 5, none⟩)) (fun wr hwr => by simp only [execOp, (F10.eval 4 (by omega)).trans (show _ = Value.pointer (some ⟨p4, 0, none⟩) from by simp [upd, ee0, ee4])]; simp [go_sem]) fun F11 => ?_
  refine lyp F11 rfl HC0 rfl (by omega) (wanted_none rfl) (v := Value.bool all) (fun wr hwr => by simp only [execOp, (F11.eval 51 (by omega)).trans (show _ = Value.pointer (some ⟨p4, 5, none⟩) from by simp [upd, ee0, ee4])]; simp [go_sem, (hwr.2.2.cell 5)]) fun F12 => ?_
  refine lcp F12 rfl HC0 rfl (by omega) (wanted_none rfl) (g := 47) (args := #[Value.pointer (some ⟨g.rb, 0, none⟩), Value.int .i64 lim, Value.int .i64 rts, Value.int .i64 hld, Value.bool all]) (by simp only [execOp, resolve, invoke, List.map_toArray, List.map_cons, List.map_nil, (F12.eval 44 (by omega)).trans (show _ = Value.pointer (some ⟨g.rb, 0, none⟩) from by simp [upd, ee0, ee4]), (F12.eval 46 (by omega)).trans (show _ = Value.int .i64 lim from by simp [upd, ee0, ee4]), (F12.eval 48 (by omega)).trans (show _ = Value.int .i64 rts from by simp [upd, ee0, ee4]), (F12.eval 50 (by omega)).trans (show _ = Value.int .i64 hld from by simp [upd, ee0, ee4]), (F12.eval 52 (by omega)).trans (show _ = Value.bool all from by simp [upd, ee0, ee4])]; simp [go_sem, Act.eval]) (rbeg_any lim rts hld all _ (pES.rm HSD.out.drop) HA.out HX.out (by have := HSZ.out; unfold RV.sz at this; omega)) ?_
  rintro e w9 ⟨v2, rfl, ho2, g5, hm5, hs5⟩
  have HRB : Hid (g5.rb = g.rb) := hs5.1
  have hch5 := hs5.2.1
  have HSR : Hid (AS own0 w0 (rowE L 56 6 v1 (begA x lim rts hld all).length (flatA (begA x lim rts hld all)) :: pES K hK s pb mb cb (begX x lim rts hld all) g5 (begR x r lim rts hld all) R) w9) := pES.ref (F := [rowE L 56 6 v1 (begA x lim rts hld all).length (flatA (begA x lim rts hld all))]) HSD.out hm5 hs5
  have HC9 : (fun wz : World => wz.cell? ⟨pb, 0, none⟩ = some (.pointer (some ⟨mb, 0, none⟩)) ∧ wz.cell? ⟨pb, 1, none⟩ = some (.pointer (some ⟨g.rb, 0, none⟩)) ∧ Blk wz p4 #[.int .i64 who, .int .i64 1, .int .i64 lim, .int .i64 rts, .int .i64 hld, .bool all, .bool false, .int .i64 frm, .int .i64 a, .int .i64 b, .int .i64 c, .int .i64 d] 78) w9 := ⟨(pES.cl HSR.out.drop).1, by rw [← HRB.out]; exact (pES.cl HSR.out.drop).2, hch5.blk (Blk.up (w := w3) HB4.out hDR) HPR.out⟩
  have HO2 : Hid _ := ho2
  refine ⟨_, rfl, fun F13 => ?_⟩
  refine lyp F13 rfl HC9 rfl (by omega) (wanted_none rfl) (v := Value.tuple #[v2, .int .i64 (begC x lim rts hld)]) (fun wr hwr => by simp only [execOp, (F13.eval 53 (by omega)).trans (show _ = Value.tuple #[v2, .int .i64 (begC x lim rts hld)] from by simp [upd, ee0, ee4])]; first | rfl | simp [go_sem]) fun F14 => ?_
  refine lyp F14 rfl HC9 rfl (by omega) (wanted_none rfl) (v := v2) (fun wr hwr => by simp only [execOp, (F14.eval 40 (by omega)).trans (show _ = Value.tuple #[v2, .int .i64 (begC x lim rts hld)] from by simp [upd, ee0, ee4])]; simp [go_sem]) fun F15 => ?_
  refine lyp F15 rfl HC9 rfl (by omega) (wanted_none rfl) (v := Value.int .i64 (begC x lim rts hld)) (fun wr hwr => by simp only [execOp, (F15.eval 40 (by omega)).trans (show _ = Value.tuple #[v2, .int .i64 (begC x lim rts hld)] from by simp [upd, ee0, ee4])]; simp [go_sem]) fun F16 => ?_
  refine lyp F16 rfl HC9 rfl (by omega) (wanted_none rfl) (v := v2) (fun wr hwr => by simp only [execOp, (F16.eval 54 (by omega)).trans (show _ = v2 from by simp [upd, ee0, ee4])]; first | rfl | simp [go_sem]) fun F17 => ?_
  refine lep F17 rfl HC9 rfl (by omega) (wanted_none rfl) (v := Value.int .i64 (begC x lim rts hld)) (w1 := w9) (by simp only [execOp, (F17.eval 55 (by omega)).trans (show _ = Value.int .i64 (begC x lim rts hld) from by simp [upd, ee0, ee4])]; first | rfl | simp [go_sem]) fun F18 => ?_
  refine ⟨fun h => by omega, ?_⟩
  clear F0 F1 F2 F3 F4 F5 F6 F7 F8 F9 F10 F11 F12 F13 F14 F15 F16 F17 F18 ee0 ee4 HC0 HC9 hDR
  simp only [Act.put, List.setIfInBounds_toArray, List.set_cons_succ, List.set_cons_zero]
  clear HSD hch5 hs5 ho2
  clear hm5
  generalize hcode : begC x lim rts hld = code at *
  clear hcode
  go_wp2_with (first
    | (go_at_call 53; refine Calls.mono (same_any _ (show w9.ownsRow L 56 6 v1 _ _ from HSR.out.head) HO2.out) ?_; rintro e w6 ⟨rfl, hb6⟩; have HS6 : Hid _ := HSR.out.more hb6; clear hb6)
    | (go_at_call 54; refine Calls.mono (pES.putA HS6.out HLN.out (by have := HCN.out; omega)) ?_; rintro e w7 ⟨rfl, s7, hs7, hc7⟩; have HS7 : Hid _ := hs7; have HC7 : Hid _ := hc7; clear hs7 hc7)
    | (go_at_call 55; refine Calls.mono (looks_any w7 HS7.out HA2.out HX2.out (pES.lw HS7.out).1 (pES.lw HS7.out).2 (by have := HCN.out; have := HC7.out; omega)) ?_; rintro e w8 ⟨rfl, s8, hs8, hc8⟩; have HS8 : Hid _ := hs8; have HC8 : Hid _ := hc8; clear hs8 hc8)
    | fail)
  go_ret
  exact ⟨rfl, s8, _, HS8.out, by have := HC7.out; have := HC8.out; omega⟩
set_option maxRecDepth 100000 in
set_option maxHeartbeats 12800000 in
theorem pl_1_true {σ : Type} {L kb pb mb cb : Nat} {K : Keeper σ L kb} {hK : KFr K} {s : σ} {x : EV} {g : RG} {r : RV} {R : List (Ent L)} {own0 : Nat → Prop} {w0 : World} (who lim rts hld frm a b c d er ek : Int) (all : Bool) (w : World) (h : AS own0 w0 (pES K hK s pb mb cb x g r R) w) (ha : Agr x r) (hx : x.Nm) (hsz : r.sz ≤ 999999980) (hcnt : K.cnt s ≤ 999999999900) (hE : liveE x x.me = ⟨er, ek⟩) : Calls Try.prog 27 #[.pointer (some ⟨pb, 0, none⟩), .agg #[.int .i64 who, .int .i64 1, .int .i64 lim, .int .i64 rts, .int .i64 hld, .bool all, .bool true, .int .i64 frm, .int .i64 a, .int .i64 b, .int .i64 c, .int .i64 d], .pointer (some ⟨kb, 0, none⟩)] w fun e w' => e = .returned (.bool true) ∧ ∃ s' g', AS own0 w0 (pES K hK s' pb mb cb (begX x lim rts hld all) g' (begR x r lim rts hld all) R) w' ∧ K.cnt s' ≤ K.cnt s + 36 := by
  have HX : Hid _ := hx
  have HA : Hid _ := ha
  have HX2 : Hid (EV.Nm (begX x lim rts hld all)) := begX_nm hx lim rts hld all
  have HA2 : Hid (Agr (begX x lim rts hld all) (begR x r lim rts hld all)) := show Agr (begX x lim rts hld all) (begR x r lim rts hld all) from ha.beg hx lim rts hld all
  have HLN : Hid ((begA x lim rts hld all).length ≤ 1000000) := show (begA x lim rts hld all).length ≤ 1000000 from Nat.le_trans (begA_len x lim rts hld all) (by decide)
  have HSZ : Hid _ := hsz
  have HCN : Hid _ := hcnt
  have HLB : Hid _ := ha.lastB
  obtain ⟨p4, hp4⟩ : ∃ p, p = w.heap.size := ⟨_, rfl⟩
  have HP4 : Hid (∀ k, has (pES K hK s pb mb cb x g r R) k → k < p4) := show ∀ k, has (pES K hK s pb mb cb x g r R) k → k < p4 from fun k hk => by rw [hp4]; exact (h.h.typ hk).2
  have HPM : Hid (¬ mown mb cb p4) := show ¬ mown mb cb p4 from fun e => by have := HP4.out p4 (by unfold pES; rw [has_cons, has_cons, has_cons]; exact .inr (.inr (.inl e))); omega
  have HPR : Hid (¬ rown g p4) := show ¬ rown g p4 from fun e => by have := HP4.out p4 (by unfold pES; rw [has_cons, has_cons, has_cons, has_cons]; exact .inr (.inr (.inr (.inl e)))); omega
  have hbW : Below w.heap.size w (w.alloc (.cells #[.int .i64 who, .int .i64 1, .int .i64 lim, .int .i64 rts, .int .i64 hld, .bool all, .bool true, .int .i64 frm, .int .i64 a, .int .i64 b, .int .i64 c, .int .i64 d] 78)) := (Below.refl _ _).alloc (Nat.le_refl _) _
  have HS0 : Hid (AS own0 w0 (pES K hK s pb mb cb x g r R) (w.alloc (.cells #[.int .i64 who, .int .i64 1, .int .i64 lim, .int .i64 rts, .int .i64 hld, .bool all, .bool true, .int .i64 frm, .int .i64 a, .int .i64 b, .int .i64 c, .int .i64 d] 78))) := h.more hbW
  have HB0 : Hid (Blk (w.alloc (.cells #[.int .i64 who, .int .i64 1, .int .i64 lim, .int .i64 rts, .int .i64 hld, .bool all, .bool true, .int .i64 frm, .int .i64 a, .int .i64 b, .int .i64 c, .int .i64 d] 78)) p4 #[.int .i64 who, .int .i64 1, .int .i64 lim, .int .i64 rts, .int .i64 hld, .bool all, .bool true, .int .i64 frm, .int .i64 a, .int .i64 b, .int .i64 c, .int .i64 d] 78) := show Blk _ _ _ _ from by rw [hp4]; exact heap_alloc_new w _
  have hlt4 : p4 < (w.alloc (.cells #[.int .i64 who, .int .i64 1, .int .i64 lim, .int .i64 rts, .int .i64 hld, .bool all, .bool true, .int .i64 frm, .int .i64 a, .int .i64 b, .int .i64 c, .int .i64 d] 78)).heap.size := HB0.out.lt
  have HOW : Hid (∀ W, AS own0 w0 (pES K hK s pb mb cb x g r R) W → Calls Try.prog 46 #[.pointer (some ⟨g.rb, 0, none⟩)] W fun e w' => e = .returned (epV ⟨er, ek⟩) ∧ Below W.heap.size W w') := fun W hW => by rw [← hE]; exact rown_any W (pES.rm hW) ha hx
  have HW0 : Hid (w0.heap.size ≤ p4) := show w0.heap.size ≤ p4 from by rw [hp4]; exact h.chg.size
  clear h ha hx hsz hcnt hbW hE
  unfold epV at *
  go_enter Try.func27, Try.ntmps27
  go_upto_region 1 with fail
  try rw [← hp4]
  clear hp4
  generalize w.alloc (.cells #[.int .i64 who, .int .i64 1, .int .i64 lim, .int .i64 rts, .int .i64 hld, .bool all, .bool true, .int .i64 frm, .int .i64 a, .int .i64 b, .int .i64 c, .int .i64 d] 78) = W0 at *
  have hq6 : W0.cell? ⟨p4, 6, none⟩ = some (.bool true) := HB0.out.cell 6
  obtain ⟨c0, c1⟩ := pES.cl HS0.out
  go_upto_region 3 with (first
    | (go_at_call 46; refine Calls.mono (HOW.out _ HS0.out) ?_; rintro e w1 ⟨rfl, hb1⟩; have hB1 := Blk.up (w := W0) HB0.out hb1; have s8 := hB1.cell 8; have s9 := hB1.cell 9; have f8 := hB1.frozen 8; have f9 := hB1.frozen 9; clear hB1)
    | fail)
  have hc1 : Chg (fun k => k = p4) w1 ((w1.setCell ⟨p4, 8, none⟩ (.int .i64 er)).setCell ⟨p4, 9, none⟩ (.int .i64 ek)) := (setCell_chg _ _ _ _).trans (setCell_chg _ _ _ _) (fun _ _ e => e)
  have HB4 : Hid (Blk ((w1.setCell ⟨p4, 8, none⟩ (.int .i64 er)).setCell ⟨p4, 9, none⟩ (.int .i64 ek)) p4 #[.int .i64 who, .int .i64 1, .int .i64 lim, .int .i64 rts, .int .i64 hld, .bool all, .bool true, .int .i64 frm, .int .i64 er, .int .i64 ek, .int .i64 c, .int .i64 d] 78) := show Blk _ _ _ _ from ((Blk.up (w := W0) HB0.out hb1).set 8 _).set 9 _
  have HS : Hid (AS own0 w0 (pES K hK s pb mb cb x g r R) ((w1.setCell ⟨p4, 8, none⟩ (.int .i64 er)).setCell ⟨p4, 9, none⟩ (.int .i64 ek))) := show AS _ _ _ _ from by
    have h1 := HS0.out.more hb1
    exact ⟨h1.h.chg hc1 (fun k hk e => by have := HP4.out k hk; omega), h1.chg.trans hc1 (fun k hk e => by
      have h2 := HW0.out; omega), h1.new⟩
  generalize (w1.setCell ⟨p4, 8, none⟩ (.int .i64 er)).setCell ⟨p4, 9, none⟩ (.int .i64 ek) = W at *
  clear hc1 hb1 s8 s9 f8 f9 hq6 c0 c1 HOW
  have q1 : W.cell? ⟨p4, 1, none⟩ = some (.int .i64 1) := HB4.out.cell 1
  have hlt4W : p4 < W.heap.size := HB4.out.lt
  clear HS0 HB0 hlt4
  go_upto_region 9 with fail
  rename_i K1 hK1
  try rw [show ∀ a : Act, a.put none undef = a from fun _ => rfl]
  have hDR : Below W.heap.size W ({ W with drawn := W.drawn + 1 } : World) := (Below.refl _ _).drew
  have HSD : Hid (AS own0 w0 (pES K hK s pb mb cb x g r R) ({ W with drawn := W.drawn + 1 } : World)) := HS.out.more hDR
  have HC0 : (fun wz : World => wz.cell? ⟨pb, 0, none⟩ = some (.pointer (some ⟨mb, 0, none⟩)) ∧ wz.cell? ⟨pb, 1, none⟩ = some (.pointer (some ⟨g.rb, 0, none⟩)) ∧ Blk wz p4 #[.int .i64 who, .int .i64 1, .int .i64 lim, .int .i64 rts, .int .i64 hld, .bool all, .bool true, .int .i64 frm, .int .i64 er, .int .i64 ek, .int .i64 c, .int .i64 d] 78) ({ W with drawn := W.drawn + 1 } : World) := ⟨(pES.cl HSD.out).1, (pES.cl HSD.out).2, Blk.up (w := W) HB4.out hDR⟩
  refine wp_region_mix (fun wz : World => wz.cell? ⟨pb, 0, none⟩ = some (.pointer (some ⟨mb, 0, none⟩)) ∧ wz.cell? ⟨pb, 1, none⟩ = some (.pointer (some ⟨g.rb, 0, none⟩)) ∧ Blk wz p4 #[.int .i64 who, .int .i64 1, .int .i64 lim, .int .i64 rts, .int .i64 hld, .bool all, .bool true, .int .i64 frm, .int .i64 er, .int .i64 ek, .int .i64 c, .int .i64 d] 78) (fun i => i == 12 || i == 17) 17 (by kernel_rfl) rfl (by kernel_rfl) (by kernel_rfl) (by kernel_rfl) ?_
  refine withFrP (N := 169) rfl ?_
  intro f0 F0 hff
  have ee0 : f0 0 = Value.pointer (some ⟨pb, 0, none⟩) := hff 0
  have ee4 : f0 4 = Value.pointer (some ⟨p4, 0, none⟩) := hff 4
  clear hff
  refine lyp F0 rfl HC0 rfl (by omega) (wanted_none rfl) (v := Value.pointer (some ⟨pb, 0, none⟩)) (fun wr hwr => by simp only [execOp, (F0.eval 0 (by omega)).trans (show _ = Value.pointer (some ⟨pb, 0, none⟩) from by simp [upd, ee0, ee4])]; first | rfl | simp [go_sem]) fun F1 => ?_
  refine lyp F1 rfl HC0 rfl (by omega) (wanted_none rfl) (v := Value.pointer (some ⟨pb, 0, none⟩)) (fun wr hwr => by simp only [execOp, (F1.eval 25 (by omega)).trans (show _ = Value.pointer (some ⟨pb, 0, none⟩) from by simp [upd, ee0, ee4])]; simp [go_sem]) fun F2 => ?_
  refine lyp F2 rfl HC0 rfl (by omega) (wanted_none rfl) (v := Value.pointer (some ⟨pb, 0, none⟩)) (fun wr hwr => by simp only [execOp, (F2.eval 26 (by omega)).trans (show _ = Value.pointer (some ⟨pb, 0, none⟩) from by simp [upd, ee0, ee4])]; simp [go_sem]) fun F3 => ?_
  refine lyp F3 rfl HC0 rfl (by omega) (wanted_none rfl) (v := Value.pointer (some ⟨mb, 0, none⟩)) (fun wr hwr => by simp only [execOp, (F3.eval 27 (by omega)).trans (show _ = Value.pointer (some ⟨pb, 0, none⟩) from by simp [upd, ee0, ee4])]; simp [go_sem, hwr.1]) fun F4 => ?_
  refine lyp F4 rfl HC0 rfl (by omega) (wanted_none rfl) (v := Value.pointer (some ⟨p4, 2, none⟩)) (fun wr hwr => by simp only [execOp, (F4.eval 4 (by omega)).trans (show _ = Value.pointer (some ⟨p4, 0, none⟩) from by simp [upd, ee0, ee4])]; simp [go_sem]) fun F5 => ?_
  refine lyp F5 rfl HC0 rfl (by omega) (wanted_none rfl) (v := Value.int .i64 lim) (fun wr hwr => by simp only [execOp, (F5.eval 29 (by omega)).trans (show _ = Value.pointer (some ⟨p4, 2, none⟩) from by simp [upd, ee0, ee4])]; simp [go_sem, (hwr.2.2.cell 2)]) fun F6 => ?_
  refine lyp F6 rfl HC0 rfl (by omega) (wanted_none rfl) (v := Value.pointer (some ⟨p4, 3, none⟩)) (fun wr hwr => by simp only [execOp, (F6.eval 4 (by omega)).trans (show _ = Value.pointer (some ⟨p4, 0, none⟩) from by simp [upd, ee0, ee4])]; simp [go_sem]) fun F7 => ?_
  refine lyp F7 rfl HC0 rfl (by omega) (wanted_none rfl) (v := Value.int .i64 rts) (fun wr hwr => by simp only [execOp, (F7.eval 31 (by omega)).trans (show _ = Value.pointer (some ⟨p4, 3, none⟩) from by simp [upd, ee0, ee4])]; simp [go_sem, (hwr.2.2.cell 3)]) fun F8 => ?_
  refine lyp F8 rfl HC0 rfl (by omega) (wanted_none rfl) (v := Value.pointer (some ⟨p4, 4, none⟩)) (fun wr hwr => by simp only [execOp, (F8.eval 4 (by omega)).trans (show _ = Value.pointer (some ⟨p4, 0, none⟩) from by simp [upd, ee0, ee4])]; simp [go_sem]) fun F9 => ?_
  refine lyp F9 rfl HC0 rfl (by omega) (wanted_none rfl) (v := Value.int .i64 hld) (fun wr hwr => by simp only [execOp, (F9.eval 33 (by omega)).trans (show _ = Value.pointer (some ⟨p4, 4, none⟩) from by simp [upd, ee0, ee4])]; simp [go_sem, (hwr.2.2.cell 4)]) fun F10 => ?_
  refine lyp F10 rfl HC0 rfl (by omega) (wanted_none rfl) (v := Value.pointer (some ⟨p4, 5, none⟩)) (fun wr hwr => by simp only [execOp, (F10.eval 4 (by omega)).trans (show _ = Value.pointer (some ⟨p4, 0, none⟩) from by simp [upd, ee0, ee4])]; simp [go_sem]) fun F11 => ?_
  refine lyp F11 rfl HC0 rfl (by omega) (wanted_none rfl) (v := Value.bool all) (fun wr hwr => by simp only [execOp, (F11.eval 35 (by omega)).trans (show _ = Value.pointer (some ⟨p4, 5, none⟩) from by simp [upd, ee0, ee4])]; simp [go_sem, (hwr.2.2.cell 5)]) fun F12 => ?_
  refine lcp F12 rfl HC0 rfl (by omega) (wanted_none rfl) (g := 17) (args := #[Value.pointer (some ⟨mb, 0, none⟩), Value.int .i64 lim, Value.int .i64 rts, Value.int .i64 hld, Value.bool all]) (by simp only [execOp, resolve, invoke, List.map_toArray, List.map_cons, List.map_nil, (F12.eval 28 (by omega)).trans (show _ = Value.pointer (some ⟨mb, 0, none⟩) from by simp [upd, ee0, ee4]), (F12.eval 30 (by omega)).trans (show _ = Value.int .i64 lim from by simp [upd, ee0, ee4]), (F12.eval 32 (by omega)).trans (show _ = Value.int .i64 rts from by simp [upd, ee0, ee4]), (F12.eval 34 (by omega)).trans (show _ = Value.int .i64 hld from by simp [upd, ee0, ee4]), (F12.eval 36 (by omega)).trans (show _ = Value.bool all from by simp [upd, ee0, ee4])]; simp [go_sem, Act.eval]) (begin_any lim rts hld all _ (pES.mm HSD.out) HX.out HLB.out) ?_
  rintro e w9 ⟨v1, rfl, ho1, hm1, hc1⟩
  have HS9 : Hid (AS own0 w0 (rowE L 56 6 v1 (begA x lim rts hld all).length (flatA (begA x lim rts hld all)) :: pES K hK s pb mb cb (begX x lim rts hld all) g r R) w9) := pES.step HSD.out ho1 hm1 hc1
  have HC9 : (fun wz : World => wz.cell? ⟨pb, 0, none⟩ = some (.pointer (some ⟨mb, 0, none⟩)) ∧ wz.cell? ⟨pb, 1, none⟩ = some (.pointer (some ⟨g.rb, 0, none⟩)) ∧ Blk wz p4 #[.int .i64 who, .int .i64 1, .int .i64 lim, .int .i64 rts, .int .i64 hld, .bool all, .bool true, .int .i64 frm, .int .i64 er, .int .i64 ek, .int .i64 c, .int .i64 d] 78) w9 := ⟨(pES.cl HS9.out.drop).1, (pES.cl HS9.out.drop).2, hc1.blk (Blk.up (w := W) HB4.out hDR) HPM.out⟩
  have HBN : Hid (Blk w9 p4 #[.int .i64 who, .int .i64 1, .int .i64 lim, .int .i64 rts, .int .i64 hld, .bool all, .bool true, .int .i64 frm, .int .i64 er, .int .i64 ek, .int .i64 c, .int .i64 d] 78) := HC9.2.2
  refine ⟨_, rfl, fun F13 => ?_⟩
  refine lyp F13 rfl HC9 rfl (by omega) (wanted_none rfl) (v := Value.tuple #[v1, .int .i64 (begC x lim rts hld)]) (fun wr hwr => by simp only [execOp, (F13.eval 37 (by omega)).trans (show _ = Value.tuple #[v1, .int .i64 (begC x lim rts hld)] from by simp [upd, ee0, ee4])]; first | rfl | simp [go_sem]) fun F14 => ?_
  refine lyp F14 rfl HC9 rfl (by omega) (wanted_none rfl) (v := v1) (fun wr hwr => by simp only [execOp, (F14.eval 24 (by omega)).trans (show _ = Value.tuple #[v1, .int .i64 (begC x lim rts hld)] from by simp [upd, ee0, ee4])]; simp [go_sem]) fun F15 => ?_
  refine lyp F15 rfl HC9 rfl (by omega) (wanted_none rfl) (v := Value.int .i64 (begC x lim rts hld)) (fun wr hwr => by simp only [execOp, (F15.eval 24 (by omega)).trans (show _ = Value.tuple #[v1, .int .i64 (begC x lim rts hld)] from by simp [upd, ee0, ee4])]; simp [go_sem]) fun F16 => ?_
  refine lyp F16 rfl HC9 rfl (by omega) (wanted_none rfl) (v := v1) (fun wr hwr => by simp only [execOp, (F16.eval 38 (by omega)).trans (show _ = v1 from by simp [upd, ee0, ee4])]; first | rfl | simp [go_sem]) fun F17 => ?_
  refine lep F17 rfl HC9 rfl (by omega) (wanted_none rfl) (v := Value.int .i64 (begC x lim rts hld)) (w1 := w9) (by simp only [execOp, (F17.eval 39 (by omega)).trans (show _ = Value.int .i64 (begC x lim rts hld) from by simp [upd, ee0, ee4])]; first | rfl | simp [go_sem]) fun F18 => ?_
  refine ⟨fun h => by omega, ?_⟩
  refine hK1 _ _ ?_
  clear F0 F1 F2 F3 F4 F5 F6 F7 F8 F9 F10 F11 F12 F13 F14 F15 F16 F17 F18 ee0 ee4 HC0 HC9 hDR
  simp only [Act.put, List.setIfInBounds_toArray, List.set_cons_succ, List.set_cons_zero]
  have HB4 : Hid (Blk w9 p4 #[.int .i64 who, .int .i64 1, .int .i64 lim, .int .i64 rts, .int .i64 hld, .bool all, .bool true, .int .i64 frm, .int .i64 er, .int .i64 ek, .int .i64 c, .int .i64 d] 78) := HBN.out
  have hltw : p4 < w9.heap.size := HB4.out.lt
  have HSA : Hid (AS own0 w0 (rowE L 56 6 v1 (begA x lim rts hld all).length (flatA (begA x lim rts hld all)) :: pES K hK s pb mb cb (begX x lim rts hld all) g r R) w9) := HS9.out
  clear HBN HS9 HSD HS hc1 hm1 ho1 q1
  obtain ⟨w3, hw3⟩ : ∃ W, W = w9 := ⟨_, rfl⟩
  subst hw3
  go_upto_region 10 with fail
  try rw [show ∀ a : Act, a.put none undef = a from fun _ => rfl]
  have hDR : Below w3.heap.size w3 ({ w3 with drawn := w3.drawn + 1 } : World) := (Below.refl _ _).drew
  have HSD : Hid (AS own0 w0 (rowE L 56 6 v1 (begA x lim rts hld all).length (flatA (begA x lim rts hld all)) :: pES K hK s pb mb cb (begX x lim rts hld all) g r R) ({ w3 with drawn := w3.drawn + 1 } : World)) := HSA.out.more hDR
  have HC0 : (fun wz : World => wz.cell? ⟨pb, 0, none⟩ = some (.pointer (some ⟨mb, 0, none⟩)) ∧ wz.cell? ⟨pb, 1, none⟩ = some (.pointer (some ⟨g.rb, 0, none⟩)) ∧ Blk wz p4 #[.int .i64 who, .int .i64 1, .int .i64 lim, .int .i64 rts, .int .i64 hld, .bool all, .bool true, .int .i64 frm, .int .i64 er, .int .i64 ek, .int .i64 c, .int .i64 d] 78) ({ w3 with drawn := w3.drawn + 1 } : World) := ⟨(pES.cl HSD.out.drop).1, (pES.cl HSD.out.drop).2, Blk.up (w := w3) HB4.out hDR⟩
  refine wp_region_mix (fun wz : World => wz.cell? ⟨pb, 0, none⟩ = some (.pointer (some ⟨mb, 0, none⟩)) ∧ wz.cell? ⟨pb, 1, none⟩ = some (.pointer (some ⟨g.rb, 0, none⟩)) ∧ Blk wz p4 #[.int .i64 who, .int .i64 1, .int .i64 lim, .int .i64 rts, .int .i64 hld, .bool all, .bool true, .int .i64 frm, .int .i64 er, .int .i64 ek, .int .i64 c, .int .i64 d] 78) (fun i => i == 12 || i == 17) 17 (by kernel_rfl) rfl (by kernel_rfl) (by kernel_rfl) (by kernel_rfl) ?_
  refine withFrP (N := 169) rfl ?_
  intro f0 F0 hff
  have ee0 : f0 0 = Value.pointer (some ⟨pb, 0, none⟩) := hff 0
  have ee4 : f0 4 = Value.pointer (some ⟨p4, 0, none⟩) := hff 4
  clear hff
  refine lyp F0 rfl HC0 rfl (by omega) (wanted_none rfl) (v := Value.pointer (some ⟨pb, 0, none⟩)) (fun wr hwr => by simp only [execOp, (F0.eval 0 (by omega)).trans (show _ = Value.pointer (some ⟨pb, 0, none⟩) from by simp [upd, ee0, ee4])]; first | rfl | simp [go_sem]) fun F1 => ?_
  refine lyp F1 rfl HC0 rfl (by omega) (wanted_none rfl) (v := Value.pointer (some ⟨pb, 0, none⟩)) (fun wr hwr => by simp only [execOp, (F1.eval 41 (by omega)).trans (show _ = Value.pointer (some ⟨pb, 0, none⟩) from by simp [upd, ee0, ee4])]; simp [go_sem]) fun F2 => ?_
  refine lyp F2 rfl HC0 rfl (by omega) (wanted_none rfl) (v := Value.pointer (some ⟨pb, 1, none⟩)) (fun wr hwr => by simp only [execOp, (F2.eval 42 (by omega)).trans (show _ = Value.pointer (some ⟨pb, 0, none⟩) from by simp [upd, ee0, ee4])]; simp [go_sem]) fun F3 => ?_
  refine lyp F3 rfl HC0 rfl (by omega) (wanted_none rfl) (v := Value.pointer (some ⟨g.rb, 0, none⟩)) (fun wr hwr => by simp only [execOp, (F3.eval 43 (by omega)).trans (show _ = Value.pointer (some ⟨pb, 1, none⟩) from by simp [upd, ee0, ee4])]; simp [go_sem, hwr.2.1]) fun F4 => ?_
  refine lyp F4 rfl HC0 rfl (by omega) (wanted_none rfl) (v := Value.pointer (some ⟨p4, 2, none⟩)) (fun wr hwr => by simp only [execOp, (F4.eval 4 (by omega)).trans (show _ = Value.pointer (some ⟨p4, 0, none⟩) from by simp [upd, ee0, ee4])]; simp [go_sem]) fun F5 => ?_
  refine lyp F5 rfl HC0 rfl (by omega) (wanted_none rfl) (v := Value.int .i64 lim) (fun wr hwr => by simp only [execOp, (F5.eval 45 (by omega)).trans (show _ = Value.pointer (some ⟨p4, 2, none⟩) from by simp [upd, ee0, ee4])]; simp [go_sem, (hwr.2.2.cell 2)]) fun F6 => ?_
  refine lyp F6 rfl HC0 rfl (by omega) (wanted_none rfl) (v := Value.pointer (some ⟨p4, 3, none⟩)) (fun wr hwr => by simp only [execOp, (F6.eval 4 (by omega)).trans (show _ = Value.pointer (some ⟨p4, 0, none⟩) from by simp [upd, ee0, ee4])]; simp [go_sem]) fun F7 => ?_
  refine lyp F7 rfl HC0 rfl (by omega) (wanted_none rfl) (v := Value.int .i64 rts) (fun wr hwr => by simp only [execOp, (F7.eval 47 (by omega)).trans (show _ = Value.pointer (some ⟨p4, 3, none⟩) from by simp [upd, ee0, ee4])]; simp [go_sem, (hwr.2.2.cell 3)]) fun F8 => ?_
  refine lyp F8 rfl HC0 rfl (by omega) (wanted_none rfl) (v := Value.pointer (some ⟨p4, 4, none⟩)) (fun wr hwr => by simp only [execOp, (F8.eval 4 (by omega)).trans (show _ = Value.pointer (some ⟨p4, 0, none⟩) from by simp [upd, ee0, ee4])]; simp [go_sem]) fun F9 => ?_
  refine lyp F9 rfl HC0 rfl (by omega) (wanted_none rfl) (v := Value.int .i64 hld) (fun wr hwr => by simp only [execOp, (F9.eval 49 (by omega)).trans (show _ = Value.pointer (some ⟨p4, 4, none⟩) from by simp [upd, ee0, ee4])]; simp [go_sem, (hwr.2.2.cell 4)]) fun F10 => ?_
  refine lyp F10 rfl HC0 rfl (by omega) (wanted_none rfl) (v := Value.pointer (some ⟨p4, 5, none⟩)) (fun wr hwr => by simp only [execOp, (F10.eval 4 (by omega)).trans (show _ = Value.pointer (some ⟨p4, 0, none⟩) from by simp [upd, ee0, ee4])]; simp [go_sem]) fun F11 => ?_
  refine lyp F11 rfl HC0 rfl (by omega) (wanted_none rfl) (v := Value.bool all) (fun wr hwr => by simp only [execOp, (F11.eval 51 (by omega)).trans (show _ = Value.pointer (some ⟨p4, 5, none⟩) from by simp [upd, ee0, ee4])]; simp [go_sem, (hwr.2.2.cell 5)]) fun F12 => ?_
  refine lcp F12 rfl HC0 rfl (by omega) (wanted_none rfl) (g := 47) (args := #[Value.pointer (some ⟨g.rb, 0, none⟩), Value.int .i64 lim, Value.int .i64 rts, Value.int .i64 hld, Value.bool all]) (by simp only [execOp, resolve, invoke, List.map_toArray, List.map_cons, List.map_nil, (F12.eval 44 (by omega)).trans (show _ = Value.pointer (some ⟨g.rb, 0, none⟩) from by simp [upd, ee0, ee4]), (F12.eval 46 (by omega)).trans (show _ = Value.int .i64 lim from by simp [upd, ee0, ee4]), (F12.eval 48 (by omega)).trans (show _ = Value.int .i64 rts from by simp [upd, ee0, ee4]), (F12.eval 50 (by omega)).trans (show _ = Value.int .i64 hld from by simp [upd, ee0, ee4]), (F12.eval 52 (by omega)).trans (show _ = Value.bool all from by simp [upd, ee0, ee4])]; simp [go_sem, Act.eval]) (rbeg_any lim rts hld all _ (pES.rm HSD.out.drop) HA.out HX.out (by have := HSZ.out; unfold RV.sz at this; omega)) ?_
  rintro e w9 ⟨v2, rfl, ho2, g5, hm5, hs5⟩
  have HRB : Hid (g5.rb = g.rb) := hs5.1
  have hch5 := hs5.2.1
  have HSR : Hid (AS own0 w0 (rowE L 56 6 v1 (begA x lim rts hld all).length (flatA (begA x lim rts hld all)) :: pES K hK s pb mb cb (begX x lim rts hld all) g5 (begR x r lim rts hld all) R) w9) := pES.ref (F := [rowE L 56 6 v1 (begA x lim rts hld all).length (flatA (begA x lim rts hld all))]) HSD.out hm5 hs5
  have HC9 : (fun wz : World => wz.cell? ⟨pb, 0, none⟩ = some (.pointer (some ⟨mb, 0, none⟩)) ∧ wz.cell? ⟨pb, 1, none⟩ = some (.pointer (some ⟨g.rb, 0, none⟩)) ∧ Blk wz p4 #[.int .i64 who, .int .i64 1, .int .i64 lim, .int .i64 rts, .int .i64 hld, .bool all, .bool true, .int .i64 frm, .int .i64 er, .int .i64 ek, .int .i64 c, .int .i64 d] 78) w9 := ⟨(pES.cl HSR.out.drop).1, by rw [← HRB.out]; exact (pES.cl HSR.out.drop).2, hch5.blk (Blk.up (w := w3) HB4.out hDR) HPR.out⟩
  have HO2 : Hid _ := ho2
  refine ⟨_, rfl, fun F13 => ?_⟩
  refine lyp F13 rfl HC9 rfl (by omega) (wanted_none rfl) (v := Value.tuple #[v2, .int .i64 (begC x lim rts hld)]) (fun wr hwr => by simp only [execOp, (F13.eval 53 (by omega)).trans (show _ = Value.tuple #[v2, .int .i64 (begC x lim rts hld)] from by simp [upd, ee0, ee4])]; first | rfl | simp [go_sem]) fun F14 => ?_
  refine lyp F14 rfl HC9 rfl (by omega) (wanted_none rfl) (v := v2) (fun wr hwr => by simp only [execOp, (F14.eval 40 (by omega)).trans (show _ = Value.tuple #[v2, .int .i64 (begC x lim rts hld)] from by simp [upd, ee0, ee4])]; simp [go_sem]) fun F15 => ?_
  refine lyp F15 rfl HC9 rfl (by omega) (wanted_none rfl) (v := Value.int .i64 (begC x lim rts hld)) (fun wr hwr => by simp only [execOp, (F15.eval 40 (by omega)).trans (show _ = Value.tuple #[v2, .int .i64 (begC x lim rts hld)] from by simp [upd, ee0, ee4])]; simp [go_sem]) fun F16 => ?_
  refine lyp F16 rfl HC9 rfl (by omega) (wanted_none rfl) (v := v2) (fun wr hwr => by simp only [execOp, (F16.eval 54 (by omega)).trans (show _ = v2 from by simp [upd, ee0, ee4])]; first | rfl | simp [go_sem]) fun F17 => ?_
  refine lep F17 rfl HC9 rfl (by omega) (wanted_none rfl) (v := Value.int .i64 (begC x lim rts hld)) (w1 := w9) (by simp only [execOp, (F17.eval 55 (by omega)).trans (show _ = Value.int .i64 (begC x lim rts hld) from by simp [upd, ee0, ee4])]; first | rfl | simp [go_sem]) fun F18 => ?_
  refine ⟨fun h => by omega, ?_⟩
  clear F0 F1 F2 F3 F4 F5 F6 F7 F8 F9 F10 F11 F12 F13 F14 F15 F16 F17 F18 ee0 ee4 HC0 HC9 hDR
  simp only [Act.put, List.setIfInBounds_toArray, List.set_cons_succ, List.set_cons_zero]
  clear HSD hch5 hs5 ho2
  clear hm5
  generalize hcode : begC x lim rts hld = code at *
  clear hcode
  go_wp2_with (first
    | (go_at_call 53; refine Calls.mono (same_any _ (show w9.ownsRow L 56 6 v1 _ _ from HSR.out.head) HO2.out) ?_; rintro e w6 ⟨rfl, hb6⟩; have HS6 : Hid _ := HSR.out.more hb6; clear hb6)
    | (go_at_call 54; refine Calls.mono (pES.putA HS6.out HLN.out (by have := HCN.out; omega)) ?_; rintro e w7 ⟨rfl, s7, hs7, hc7⟩; have HS7 : Hid _ := hs7; have HC7 : Hid _ := hc7; clear hs7 hc7)
    | (go_at_call 55; refine Calls.mono (looks_any w7 HS7.out HA2.out HX2.out (pES.lw HS7.out).1 (pES.lw HS7.out).2 (by have := HCN.out; have := HC7.out; omega)) ?_; rintro e w8 ⟨rfl, s8, hs8, hc8⟩; have HS8 : Hid _ := hs8; have HC8 : Hid _ := hc8; clear hs8 hc8)
    | fail)
  go_ret
  exact ⟨rfl, s8, _, HS8.out, by have := HC7.out; have := HC8.out; omega⟩
end Go.Proofs.Ytjojhhkbebddmaa
namespace Go.Proofs.Ytjojhhkbebddmaa
open Go.RowKit Go.PlainAid
set_option linter.unusedVariables false
set_option linter.unusedSimpArgs false
set_option maxRecDepth 100000 in
set_option maxHeartbeats 12800000 in
theorem pl_2_false {σ : Type} {L kb pb mb cb : Nat} {K : Keeper σ L kb} {hK : KFr K} {s : σ} {x : EV} {g : RG} {r : RV} {R : List (Ent L)} {own0 : Nat → Prop} {w0 : World} (who lim rts hld frm a b c d er ek : Int) (all : Bool) (w : World) (h : AS own0 w0 (pES K hK s pb mb cb x g r R) w) (ha : Agr x r) (hx : x.Nm) (hsz : r.sz ≤ 999999980) (hcnt : K.cnt s ≤ 999999999900) (hE : liveE x x.me = ⟨er, ek⟩) : Calls Try.prog 27 #[.pointer (some ⟨pb, 0, none⟩), .agg #[.int .i64 who, .int .i64 2, .int .i64 lim, .int .i64 rts, .int .i64 hld, .bool all, .bool false, .int .i64 frm, .int .i64 a, .int .i64 b, .int .i64 c, .int .i64 d], .pointer (some ⟨kb, 0, none⟩)] w fun e w' => e = .returned (.bool true) ∧ ∃ s' g', AS own0 w0 (pES K hK s' pb mb cb (enX x e0 ⟨a, b⟩) g' (enR x r e0 ⟨a, b⟩) R) w' ∧ K.cnt s' ≤ K.cnt s + 36 := by
  have HX : Hid _ := hx
  have HA : Hid _ := ha
  have HX2 : Hid (EV.Nm (enX x e0 ⟨a, b⟩)) := enX_nm hx e0 ⟨a, b⟩
  have HA2 : Hid (Agr (enX x e0 ⟨a, b⟩) (enR x r e0 ⟨a, b⟩)) := show Agr (enX x e0 ⟨a, b⟩) (enR x r e0 ⟨a, b⟩) from ha.en e0 ⟨a, b⟩ _
  have HLN : Hid ((enA x e0 ⟨a, b⟩).length ≤ 1000000) := show (enA x e0 ⟨a, b⟩).length ≤ 1000000 from Nat.le_trans (turnA_len _ _) (by decide)
  have HSZ : Hid _ := hsz
  have HCN : Hid _ := hcnt
  have HLB : Hid _ := ha.lastB
  obtain ⟨p4, hp4⟩ : ∃ p, p = w.heap.size := ⟨_, rfl⟩
  have HP4 : Hid (∀ k, has (pES K hK s pb mb cb x g r R) k → k < p4) := show ∀ k, has (pES K hK s pb mb cb x g r R) k → k < p4 from fun k hk => by rw [hp4]; exact (h.h.typ hk).2
  have HPM : Hid (¬ mown mb cb p4) := show ¬ mown mb cb p4 from fun e => by have := HP4.out p4 (by unfold pES; rw [has_cons, has_cons, has_cons]; exact .inr (.inr (.inl e))); omega
  have HPR : Hid (¬ rown g p4) := show ¬ rown g p4 from fun e => by have := HP4.out p4 (by unfold pES; rw [has_cons, has_cons, has_cons, has_cons]; exact .inr (.inr (.inr (.inl e)))); omega
  have hbW : Below w.heap.size w (w.alloc (.cells #[.int .i64 who, .int .i64 2, .int .i64 lim, .int .i64 rts, .int .i64 hld, .bool all, .bool false, .int .i64 frm, .int .i64 a, .int .i64 b, .int .i64 c, .int .i64 d] 78)) := (Below.refl _ _).alloc (Nat.le_refl _) _
  have HS0 : Hid (AS own0 w0 (pES K hK s pb mb cb x g r R) (w.alloc (.cells #[.int .i64 who, .int .i64 2, .int .i64 lim, .int .i64 rts, .int .i64 hld, .bool all, .bool false, .int .i64 frm, .int .i64 a, .int .i64 b, .int .i64 c, .int .i64 d] 78))) := h.more hbW
  have HB0 : Hid (Blk (w.alloc (.cells #[.int .i64 who, .int .i64 2, .int .i64 lim, .int .i64 rts, .int .i64 hld, .bool all, .bool false, .int .i64 frm, .int .i64 a, .int .i64 b, .int .i64 c, .int .i64 d] 78)) p4 #[.int .i64 who, .int .i64 2, .int .i64 lim, .int .i64 rts, .int .i64 hld, .bool all, .bool false, .int .i64 frm, .int .i64 a, .int .i64 b, .int .i64 c, .int .i64 d] 78) := show Blk _ _ _ _ from by rw [hp4]; exact heap_alloc_new w _
  have hlt4 : p4 < (w.alloc (.cells #[.int .i64 who, .int .i64 2, .int .i64 lim, .int .i64 rts, .int .i64 hld, .bool all, .bool false, .int .i64 frm, .int .i64 a, .int .i64 b, .int .i64 c, .int .i64 d] 78)).heap.size := HB0.out.lt
  clear h ha hx hsz hcnt hbW hE
  unfold epV at *
  go_enter Try.func27, Try.ntmps27
  go_upto_region 1 with fail
  try rw [← hp4]
  clear hp4
  generalize w.alloc (.cells #[.int .i64 who, .int .i64 2, .int .i64 lim, .int .i64 rts, .int .i64 hld, .bool all, .bool false, .int .i64 frm, .int .i64 a, .int .i64 b, .int .i64 c, .int .i64 d] 78) = W0 at *
  have hq6 : W0.cell? ⟨p4, 6, none⟩ = some (.bool false) := HB0.out.cell 6
  obtain ⟨c0, c1⟩ := pES.cl HS0.out
  go_upto_region 3 with fail
  have HB4 : Hid (Blk W0 p4 #[.int .i64 who, .int .i64 2, .int .i64 lim, .int .i64 rts, .int .i64 hld, .bool all, .bool false, .int .i64 frm, .int .i64 a, .int .i64 b, .int .i64 c, .int .i64 d] 78) := HB0.out
  have HS : Hid (AS own0 w0 (pES K hK s pb mb cb x g r R) W0) := HS0.out
  clear hq6 c0 c1
  have hWW : ∃ W, W = W0 := ⟨_, rfl⟩
  obtain ⟨W, hWW⟩ := hWW
  subst hWW
  have q1 : W.cell? ⟨p4, 1, none⟩ = some (.int .i64 2) := HB4.out.cell 1
  have hlt4W : p4 < W.heap.size := HB4.out.lt
  clear HS0 HB0 hlt4
  go_upto_region 12 with fail
  rename_i K1 hK1
  try rw [show ∀ a : Act, a.put none undef = a from fun _ => rfl]
  have hDR : Below W.heap.size W ({ W with drawn := W.drawn + 1 } : World) := (Below.refl _ _).drew
  have HSD : Hid (AS own0 w0 (pES K hK s pb mb cb x g r R) ({ W with drawn := W.drawn + 1 } : World)) := HS.out.more hDR
  have HC0 : (fun wz : World => wz.cell? ⟨pb, 0, none⟩ = some (.pointer (some ⟨mb, 0, none⟩)) ∧ wz.cell? ⟨pb, 1, none⟩ = some (.pointer (some ⟨g.rb, 0, none⟩)) ∧ Blk wz p4 #[.int .i64 who, .int .i64 2, .int .i64 lim, .int .i64 rts, .int .i64 hld, .bool all, .bool false, .int .i64 frm, .int .i64 a, .int .i64 b, .int .i64 c, .int .i64 d] 78) ({ W with drawn := W.drawn + 1 } : World) := ⟨(pES.cl HSD.out).1, (pES.cl HSD.out).2, Blk.up (w := W) HB4.out hDR⟩
  refine wp_region_mix (fun wz : World => wz.cell? ⟨pb, 0, none⟩ = some (.pointer (some ⟨mb, 0, none⟩)) ∧ wz.cell? ⟨pb, 1, none⟩ = some (.pointer (some ⟨g.rb, 0, none⟩)) ∧ Blk wz p4 #[.int .i64 who, .int .i64 2, .int .i64 lim, .int .i64 rts, .int .i64 hld, .bool all, .bool false, .int .i64 frm, .int .i64 a, .int .i64 b, .int .i64 c, .int .i64 d] 78) (fun i => i == 6 || i == 7) 7 (by kernel_rfl) rfl (by kernel_rfl) (by kernel_rfl) (by kernel_rfl) ?_
  refine withFrP (N := 169) rfl ?_
  intro f0 F0 hff
  have ee0 : f0 0 = Value.pointer (some ⟨pb, 0, none⟩) := hff 0
  have ee4 : f0 4 = Value.pointer (some ⟨p4, 0, none⟩) := hff 4
  clear hff
  refine lyp F0 rfl HC0 rfl (by omega) (wanted_none rfl) (v := Value.pointer (some ⟨pb, 0, none⟩)) (fun wr hwr => by simp only [execOp, (F0.eval 0 (by omega)).trans (show _ = Value.pointer (some ⟨pb, 0, none⟩) from by simp [upd, ee0, ee4])]; first | rfl | simp [go_sem]) fun F1 => ?_
  refine lyp F1 rfl HC0 rfl (by omega) (wanted_none rfl) (v := Value.pointer (some ⟨pb, 0, none⟩)) (fun wr hwr => by simp only [execOp, (F1.eval 58 (by omega)).trans (show _ = Value.pointer (some ⟨pb, 0, none⟩) from by simp [upd, ee0, ee4])]; simp [go_sem]) fun F2 => ?_
  refine lyp F2 rfl HC0 rfl (by omega) (wanted_none rfl) (v := Value.pointer (some ⟨pb, 0, none⟩)) (fun wr hwr => by simp only [execOp, (F2.eval 59 (by omega)).trans (show _ = Value.pointer (some ⟨pb, 0, none⟩) from by simp [upd, ee0, ee4])]; simp [go_sem]) fun F3 => ?_
  refine lyp F3 rfl HC0 rfl (by omega) (wanted_none rfl) (v := Value.pointer (some ⟨mb, 0, none⟩)) (fun wr hwr => by simp only [execOp, (F3.eval 60 (by omega)).trans (show _ = Value.pointer (some ⟨pb, 0, none⟩) from by simp [upd, ee0, ee4])]; simp [go_sem, hwr.1]) fun F4 => ?_
  refine lyp F4 rfl HC0 rfl (by omega) (wanted_none rfl) (v := Value.pointer (some ⟨p4, 8, none⟩)) (fun wr hwr => by simp only [execOp, (F4.eval 4 (by omega)).trans (show _ = Value.pointer (some ⟨p4, 0, none⟩) from by simp [upd, ee0, ee4])]; simp [go_sem]) fun F5 => ?_
  refine lyp F5 rfl HC0 rfl (by omega) (wanted_none rfl) (v := Value.agg #[Value.int .i64 a, Value.int .i64 b]) (fun wr hwr => by have h0 := hwr.2.2.cell 8; have h1 := hwr.2.2.cell 9; simp only [execOp, (F5.eval 62 (by omega)).trans (show _ = Value.pointer (some ⟨p4, 8, none⟩) from by simp [upd, ee0, ee4])]; simp [go_sem, h0, h1]) fun F6 => ?_
  refine lcp F6 rfl HC0 rfl (by omega) (wanted_none rfl) (g := 36) (args := #[Value.pointer (some ⟨mb, 0, none⟩), Value.agg #[Value.int .i64 a, Value.int .i64 b]]) (by simp only [execOp, resolve, invoke, List.map_toArray, List.map_cons, List.map_nil, (F6.eval 61 (by omega)).trans (show _ = Value.pointer (some ⟨mb, 0, none⟩) from by simp [upd, ee0, ee4]), (F6.eval 63 (by omega)).trans (show _ = Value.agg #[Value.int .i64 a, Value.int .i64 b] from by simp [upd, ee0, ee4])]; simp [go_sem, Act.eval]) (hear_any ⟨a, b⟩ _ (pES.mm HSD.out) HX.out) ?_
  rintro e w9 ⟨v1, rfl, ho1, hm1, hc1⟩
  have HS9 : Hid (AS own0 w0 (rowE L 56 6 v1 (enA x e0 ⟨a, b⟩).length (flatA (enA x e0 ⟨a, b⟩)) :: pES K hK s pb mb cb (enX x e0 ⟨a, b⟩) g r R) w9) := pES.step HSD.out ho1 hm1 hc1
  have HC9 : (fun wz : World => wz.cell? ⟨pb, 0, none⟩ = some (.pointer (some ⟨mb, 0, none⟩)) ∧ wz.cell? ⟨pb, 1, none⟩ = some (.pointer (some ⟨g.rb, 0, none⟩)) ∧ Blk wz p4 #[.int .i64 who, .int .i64 2, .int .i64 lim, .int .i64 rts, .int .i64 hld, .bool all, .bool false, .int .i64 frm, .int .i64 a, .int .i64 b, .int .i64 c, .int .i64 d] 78) w9 := ⟨(pES.cl HS9.out.drop).1, (pES.cl HS9.out.drop).2, hc1.blk (Blk.up (w := W) HB4.out hDR) HPM.out⟩
  have HBN : Hid (Blk w9 p4 #[.int .i64 who, .int .i64 2, .int .i64 lim, .int .i64 rts, .int .i64 hld, .bool all, .bool false, .int .i64 frm, .int .i64 a, .int .i64 b, .int .i64 c, .int .i64 d] 78) := HC9.2.2
  refine ⟨_, rfl, fun F7 => ?_⟩
  refine lep F7 rfl HC9 rfl (by omega) (wanted_none rfl) (v := v1) (w1 := w9) (by simp only [execOp, (F7.eval 64 (by omega)).trans (show _ = v1 from by simp [upd, ee0, ee4])]; first | rfl | simp [go_sem]) fun F8 => ?_
  refine ⟨fun h => by omega, ?_⟩
  refine hK1 _ _ ?_
  clear F0 F1 F2 F3 F4 F5 F6 F7 F8 ee0 ee4 HC0 HC9 hDR
  simp only [Act.put, List.setIfInBounds_toArray, List.set_cons_succ, List.set_cons_zero]
  have HB4 : Hid (Blk w9 p4 #[.int .i64 who, .int .i64 2, .int .i64 lim, .int .i64 rts, .int .i64 hld, .bool all, .bool false, .int .i64 frm, .int .i64 a, .int .i64 b, .int .i64 c, .int .i64 d] 78) := HBN.out
  have hltw : p4 < w9.heap.size := HB4.out.lt
  have HSA : Hid (AS own0 w0 (rowE L 56 6 v1 (enA x e0 ⟨a, b⟩).length (flatA (enA x e0 ⟨a, b⟩)) :: pES K hK s pb mb cb (enX x e0 ⟨a, b⟩) g r R) w9) := HS9.out
  clear HBN HS9 HSD HS hc1 hm1 ho1 q1
  obtain ⟨w3, hw3⟩ : ∃ W, W = w9 := ⟨_, rfl⟩
  subst hw3
  go_upto_region 13 with fail
  try rw [show ∀ a : Act, a.put none undef = a from fun _ => rfl]
  have hDR : Below w3.heap.size w3 ({ w3 with drawn := w3.drawn + 1 } : World) := (Below.refl _ _).drew
  have HSD : Hid (AS own0 w0 (rowE L 56 6 v1 (enA x e0 ⟨a, b⟩).length (flatA (enA x e0 ⟨a, b⟩)) :: pES K hK s pb mb cb (enX x e0 ⟨a, b⟩) g r R) ({ w3 with drawn := w3.drawn + 1 } : World)) := HSA.out.more hDR
  have HC0 : (fun wz : World => wz.cell? ⟨pb, 0, none⟩ = some (.pointer (some ⟨mb, 0, none⟩)) ∧ wz.cell? ⟨pb, 1, none⟩ = some (.pointer (some ⟨g.rb, 0, none⟩)) ∧ Blk wz p4 #[.int .i64 who, .int .i64 2, .int .i64 lim, .int .i64 rts, .int .i64 hld, .bool all, .bool false, .int .i64 frm, .int .i64 a, .int .i64 b, .int .i64 c, .int .i64 d] 78) ({ w3 with drawn := w3.drawn + 1 } : World) := ⟨(pES.cl HSD.out.drop).1, (pES.cl HSD.out.drop).2, Blk.up (w := w3) HB4.out hDR⟩
  refine wp_region_mix (fun wz : World => wz.cell? ⟨pb, 0, none⟩ = some (.pointer (some ⟨mb, 0, none⟩)) ∧ wz.cell? ⟨pb, 1, none⟩ = some (.pointer (some ⟨g.rb, 0, none⟩)) ∧ Blk wz p4 #[.int .i64 who, .int .i64 2, .int .i64 lim, .int .i64 rts, .int .i64 hld, .bool all, .bool false, .int .i64 frm, .int .i64 a, .int .i64 b, .int .i64 c, .int .i64 d] 78) (fun i => i == 6 || i == 7) 7 (by kernel_rfl) rfl (by kernel_rfl) (by kernel_rfl) (by kernel_rfl) ?_
  refine withFrP (N := 169) rfl ?_
  intro f0 F0 hff
  have ee0 : f0 0 = Value.pointer (some ⟨pb, 0, none⟩) := hff 0
  have ee4 : f0 4 = Value.pointer (some ⟨p4, 0, none⟩) := hff 4
  clear hff
  refine lyp F0 rfl HC0 rfl (by omega) (wanted_none rfl) (v := Value.pointer (some ⟨pb, 0, none⟩)) (fun wr hwr => by simp only [execOp, (F0.eval 0 (by omega)).trans (show _ = Value.pointer (some ⟨pb, 0, none⟩) from by simp [upd, ee0, ee4])]; first | rfl | simp [go_sem]) fun F1 => ?_
  refine lyp F1 rfl HC0 rfl (by omega) (wanted_none rfl) (v := Value.pointer (some ⟨pb, 0, none⟩)) (fun wr hwr => by simp only [execOp, (F1.eval 65 (by omega)).trans (show _ = Value.pointer (some ⟨pb, 0, none⟩) from by simp [upd, ee0, ee4])]; simp [go_sem]) fun F2 => ?_
  refine lyp F2 rfl HC0 rfl (by omega) (wanted_none rfl) (v := Value.pointer (some ⟨pb, 1, none⟩)) (fun wr hwr => by simp only [execOp, (F2.eval 66 (by omega)).trans (show _ = Value.pointer (some ⟨pb, 0, none⟩) from by simp [upd, ee0, ee4])]; simp [go_sem]) fun F3 => ?_
  refine lyp F3 rfl HC0 rfl (by omega) (wanted_none rfl) (v := Value.pointer (some ⟨g.rb, 0, none⟩)) (fun wr hwr => by simp only [execOp, (F3.eval 67 (by omega)).trans (show _ = Value.pointer (some ⟨pb, 1, none⟩) from by simp [upd, ee0, ee4])]; simp [go_sem, hwr.2.1]) fun F4 => ?_
  refine lyp F4 rfl HC0 rfl (by omega) (wanted_none rfl) (v := Value.pointer (some ⟨p4, 8, none⟩)) (fun wr hwr => by simp only [execOp, (F4.eval 4 (by omega)).trans (show _ = Value.pointer (some ⟨p4, 0, none⟩) from by simp [upd, ee0, ee4])]; simp [go_sem]) fun F5 => ?_
  refine lyp F5 rfl HC0 rfl (by omega) (wanted_none rfl) (v := Value.agg #[Value.int .i64 a, Value.int .i64 b]) (fun wr hwr => by have h0 := hwr.2.2.cell 8; have h1 := hwr.2.2.cell 9; simp only [execOp, (F5.eval 69 (by omega)).trans (show _ = Value.pointer (some ⟨p4, 8, none⟩) from by simp [upd, ee0, ee4])]; simp [go_sem, h0, h1]) fun F6 => ?_
  refine lcp F6 rfl HC0 rfl (by omega) (wanted_none rfl) (g := 48) (args := #[Value.pointer (some ⟨g.rb, 0, none⟩), Value.agg #[Value.int .i64 a, Value.int .i64 b]]) (by simp only [execOp, resolve, invoke, List.map_toArray, List.map_cons, List.map_nil, (F6.eval 68 (by omega)).trans (show _ = Value.pointer (some ⟨g.rb, 0, none⟩) from by simp [upd, ee0, ee4]), (F6.eval 70 (by omega)).trans (show _ = Value.agg #[Value.int .i64 a, Value.int .i64 b] from by simp [upd, ee0, ee4])]; simp [go_sem, Act.eval]) (rhear_any ⟨a, b⟩ _ (pES.rm HSD.out.drop) HA.out HX.out (by have := HSZ.out; unfold RV.sz at this; omega)) ?_
  rintro e w9 ⟨v2, rfl, ho2, g5, hm5, hs5⟩
  have HRB : Hid (g5.rb = g.rb) := hs5.1
  have hch5 := hs5.2.1
  have HSR : Hid (AS own0 w0 (rowE L 56 6 v1 (enA x e0 ⟨a, b⟩).length (flatA (enA x e0 ⟨a, b⟩)) :: pES K hK s pb mb cb (enX x e0 ⟨a, b⟩) g5 (enR x r e0 ⟨a, b⟩) R) w9) := pES.ref (F := [rowE L 56 6 v1 (enA x e0 ⟨a, b⟩).length (flatA (enA x e0 ⟨a, b⟩))]) HSD.out hm5 hs5
  have HC9 : (fun wz : World => wz.cell? ⟨pb, 0, none⟩ = some (.pointer (some ⟨mb, 0, none⟩)) ∧ wz.cell? ⟨pb, 1, none⟩ = some (.pointer (some ⟨g.rb, 0, none⟩)) ∧ Blk wz p4 #[.int .i64 who, .int .i64 2, .int .i64 lim, .int .i64 rts, .int .i64 hld, .bool all, .bool false, .int .i64 frm, .int .i64 a, .int .i64 b, .int .i64 c, .int .i64 d] 78) w9 := ⟨(pES.cl HSR.out.drop).1, by rw [← HRB.out]; exact (pES.cl HSR.out.drop).2, hch5.blk (Blk.up (w := w3) HB4.out hDR) HPR.out⟩
  have HO2 : Hid _ := ho2
  refine ⟨_, rfl, fun F7 => ?_⟩
  refine lep F7 rfl HC9 rfl (by omega) (wanted_none rfl) (v := v2) (w1 := w9) (by simp only [execOp, (F7.eval 71 (by omega)).trans (show _ = v2 from by simp [upd, ee0, ee4])]; first | rfl | simp [go_sem]) fun F8 => ?_
  refine ⟨fun h => by omega, ?_⟩
  clear F0 F1 F2 F3 F4 F5 F6 F7 F8 ee0 ee4 HC0 HC9 hDR
  simp only [Act.put, List.setIfInBounds_toArray, List.set_cons_succ, List.set_cons_zero]
  clear HSD hch5 hs5 ho2
  clear hm5
  go_wp2_with (first
    | (go_at_call 53; refine Calls.mono (same_any _ (show w9.ownsRow L 56 6 v1 _ _ from HSR.out.head) HO2.out) ?_; rintro e w6 ⟨rfl, hb6⟩; have HS6 : Hid _ := HSR.out.more hb6; clear hb6)
    | (go_at_call 54; refine Calls.mono (pES.putA HS6.out HLN.out (by have := HCN.out; omega)) ?_; rintro e w7 ⟨rfl, s7, hs7, hc7⟩; have HS7 : Hid _ := hs7; have HC7 : Hid _ := hc7; clear hs7 hc7)
    | (go_at_call 55; refine Calls.mono (looks_any w7 HS7.out HA2.out HX2.out (pES.lw HS7.out).1 (pES.lw HS7.out).2 (by have := HCN.out; have := HC7.out; omega)) ?_; rintro e w8 ⟨rfl, s8, hs8, hc8⟩; have HS8 : Hid _ := hs8; have HC8 : Hid _ := hc8; clear hs8 hc8)
    | fail)
  go_ret
  exact ⟨rfl, s8, _, HS8.out, by have := HC7.out; have := HC8.out; omega⟩
set_option maxRecDepth 100000 in
set_option maxHeartbeats 12800000 in
theorem pl_2_true {σ : Type} {L kb pb mb cb : Nat} {K : Keeper σ L kb} {hK : KFr K} {s : σ} {x : EV} {g : RG} {r : RV} {R : List (Ent L)} {own0 : Nat → Prop} {w0 : World} (who lim rts hld frm a b c d er ek : Int) (all : Bool) (w : World) (h : AS own0 w0 (pES K hK s pb mb cb x g r R) w) (ha : Agr x r) (hx : x.Nm) (hsz : r.sz ≤ 999999980) (hcnt : K.cnt s ≤ 999999999900) (hE : liveE x x.me = ⟨er, ek⟩) : Calls Try.prog 27 #[.pointer (some ⟨pb, 0, none⟩), .agg #[.int .i64 who, .int .i64 2, .int .i64 lim, .int .i64 rts, .int .i64 hld, .bool all, .bool true, .int .i64 frm, .int .i64 a, .int .i64 b, .int .i64 c, .int .i64 d], .pointer (some ⟨kb, 0, none⟩)] w fun e w' => e = .returned (.bool true) ∧ ∃ s' g', AS own0 w0 (pES K hK s' pb mb cb (enX x e0 ⟨er, ek⟩) g' (enR x r e0 ⟨er, ek⟩) R) w' ∧ K.cnt s' ≤ K.cnt s + 36 := by
  have HX : Hid _ := hx
  have HA : Hid _ := ha
  have HX2 : Hid (EV.Nm (enX x e0 ⟨er, ek⟩)) := enX_nm hx e0 ⟨er, ek⟩
  have HA2 : Hid (Agr (enX x e0 ⟨er, ek⟩) (enR x r e0 ⟨er, ek⟩)) := show Agr (enX x e0 ⟨er, ek⟩) (enR x r e0 ⟨er, ek⟩) from ha.en e0 ⟨er, ek⟩ _
  have HLN : Hid ((enA x e0 ⟨er, ek⟩).length ≤ 1000000) := show (enA x e0 ⟨er, ek⟩).length ≤ 1000000 from Nat.le_trans (turnA_len _ _) (by decide)
  have HSZ : Hid _ := hsz
  have HCN : Hid _ := hcnt
  have HLB : Hid _ := ha.lastB
  obtain ⟨p4, hp4⟩ : ∃ p, p = w.heap.size := ⟨_, rfl⟩
  have HP4 : Hid (∀ k, has (pES K hK s pb mb cb x g r R) k → k < p4) := show ∀ k, has (pES K hK s pb mb cb x g r R) k → k < p4 from fun k hk => by rw [hp4]; exact (h.h.typ hk).2
  have HPM : Hid (¬ mown mb cb p4) := show ¬ mown mb cb p4 from fun e => by have := HP4.out p4 (by unfold pES; rw [has_cons, has_cons, has_cons]; exact .inr (.inr (.inl e))); omega
  have HPR : Hid (¬ rown g p4) := show ¬ rown g p4 from fun e => by have := HP4.out p4 (by unfold pES; rw [has_cons, has_cons, has_cons, has_cons]; exact .inr (.inr (.inr (.inl e)))); omega
  have hbW : Below w.heap.size w (w.alloc (.cells #[.int .i64 who, .int .i64 2, .int .i64 lim, .int .i64 rts, .int .i64 hld, .bool all, .bool true, .int .i64 frm, .int .i64 a, .int .i64 b, .int .i64 c, .int .i64 d] 78)) := (Below.refl _ _).alloc (Nat.le_refl _) _
  have HS0 : Hid (AS own0 w0 (pES K hK s pb mb cb x g r R) (w.alloc (.cells #[.int .i64 who, .int .i64 2, .int .i64 lim, .int .i64 rts, .int .i64 hld, .bool all, .bool true, .int .i64 frm, .int .i64 a, .int .i64 b, .int .i64 c, .int .i64 d] 78))) := h.more hbW
  have HB0 : Hid (Blk (w.alloc (.cells #[.int .i64 who, .int .i64 2, .int .i64 lim, .int .i64 rts, .int .i64 hld, .bool all, .bool true, .int .i64 frm, .int .i64 a, .int .i64 b, .int .i64 c, .int .i64 d] 78)) p4 #[.int .i64 who, .int .i64 2, .int .i64 lim, .int .i64 rts, .int .i64 hld, .bool all, .bool true, .int .i64 frm, .int .i64 a, .int .i64 b, .int .i64 c, .int .i64 d] 78) := show Blk _ _ _ _ from by rw [hp4]; exact heap_alloc_new w _
  have hlt4 : p4 < (w.alloc (.cells #[.int .i64 who, .int .i64 2, .int .i64 lim, .int .i64 rts, .int .i64 hld, .bool all, .bool true, .int .i64 frm, .int .i64 a, .int .i64 b, .int .i64 c, .int .i64 d] 78)).heap.size := HB0.out.lt
  have HOW : Hid (∀ W, AS own0 w0 (pES K hK s pb mb cb x g r R) W → Calls Try.prog 46 #[.pointer (some ⟨g.rb, 0, none⟩)] W fun e w' => e = .returned (epV ⟨er, ek⟩) ∧ Below W.heap.size W w') := fun W hW => by rw [← hE]; exact rown_any W (pES.rm hW) ha hx
  have HW0 : Hid (w0.heap.size ≤ p4) := show w0.heap.size ≤ p4 from by rw [hp4]; exact h.chg.size
  clear h ha hx hsz hcnt hbW hE
  unfold epV at *
  go_enter Try.func27, Try.ntmps27
  go_upto_region 1 with fail
  try rw [← hp4]
  clear hp4
  generalize w.alloc (.cells #[.int .i64 who, .int .i64 2, .int .i64 lim, .int .i64 rts, .int .i64 hld, .bool all, .bool true, .int .i64 frm, .int .i64 a, .int .i64 b, .int .i64 c, .int .i64 d] 78) = W0 at *
  have hq6 : W0.cell? ⟨p4, 6, none⟩ = some (.bool true) := HB0.out.cell 6
  obtain ⟨c0, c1⟩ := pES.cl HS0.out
  go_upto_region 3 with (first
    | (go_at_call 46; refine Calls.mono (HOW.out _ HS0.out) ?_; rintro e w1 ⟨rfl, hb1⟩; have hB1 := Blk.up (w := W0) HB0.out hb1; have s8 := hB1.cell 8; have s9 := hB1.cell 9; have f8 := hB1.frozen 8; have f9 := hB1.frozen 9; clear hB1)
    | fail)
  have hc1 : Chg (fun k => k = p4) w1 ((w1.setCell ⟨p4, 8, none⟩ (.int .i64 er)).setCell ⟨p4, 9, none⟩ (.int .i64 ek)) := (setCell_chg _ _ _ _).trans (setCell_chg _ _ _ _) (fun _ _ e => e)
  have HB4 : Hid (Blk ((w1.setCell ⟨p4, 8, none⟩ (.int .i64 er)).setCell ⟨p4, 9, none⟩ (.int .i64 ek)) p4 #[.int .i64 who, .int .i64 2, .int .i64 lim, .int .i64 rts, .int .i64 hld, .bool all, .bool true, .int .i64 frm, .int .i64 er, .int .i64 ek, .int .i64 c, .int .i64 d] 78) := show Blk _ _ _ _ from ((Blk.up (w := W0) HB0.out hb1).set 8 _).set 9 _
  have HS : Hid (AS own0 w0 (pES K hK s pb mb cb x g r R) ((w1.setCell ⟨p4, 8, none⟩ (.int .i64 er)).setCell ⟨p4, 9, none⟩ (.int .i64 ek))) := show AS _ _ _ _ from by
    have h1 := HS0.out.more hb1
    exact ⟨h1.h.chg hc1 (fun k hk e => by have := HP4.out k hk; omega), h1.chg.trans hc1 (fun k hk e => by
      have h2 := HW0.out; omega), h1.new⟩
  generalize (w1.setCell ⟨p4, 8, none⟩ (.int .i64 er)).setCell ⟨p4, 9, none⟩ (.int .i64 ek) = W at *
  clear hc1 hb1 s8 s9 f8 f9 hq6 c0 c1 HOW
  have q1 : W.cell? ⟨p4, 1, none⟩ = some (.int .i64 2) := HB4.out.cell 1
  have hlt4W : p4 < W.heap.size := HB4.out.lt
  clear HS0 HB0 hlt4
  go_upto_region 12 with fail
  rename_i K1 hK1
  try rw [show ∀ a : Act, a.put none undef = a from fun _ => rfl]
  have hDR : Below W.heap.size W ({ W with drawn := W.drawn + 1 } : World) := (Below.refl _ _).drew
  have HSD : Hid (AS own0 w0 (pES K hK s pb mb cb x g r R) ({ W with drawn := W.drawn + 1 } : World)) := HS.out.more hDR
  have HC0 : (fun wz : World => wz.cell? ⟨pb, 0, none⟩ = some (.pointer (some ⟨mb, 0, none⟩)) ∧ wz.cell? ⟨pb, 1, none⟩ = some (.pointer (some ⟨g.rb, 0, none⟩)) ∧ Blk wz p4 #[.int .i64 who, .int .i64 2, .int .i64 lim, .int .i64 rts, .int .i64 hld, .bool all, .bool true, .int .i64 frm, .int .i64 er, .int .i64 ek, .int .i64 c, .int .i64 d] 78) ({ W with drawn := W.drawn + 1 } : World) := ⟨(pES.cl HSD.out).1, (pES.cl HSD.out).2, Blk.up (w := W) HB4.out hDR⟩
  refine wp_region_mix (fun wz : World => wz.cell? ⟨pb, 0, none⟩ = some (.pointer (some ⟨mb, 0, none⟩)) ∧ wz.cell? ⟨pb, 1, none⟩ = some (.pointer (some ⟨g.rb, 0, none⟩)) ∧ Blk wz p4 #[.int .i64 who, .int .i64 2, .int .i64 lim, .int .i64 rts, .int .i64 hld, .bool all, .bool true, .int .i64 frm, .int .i64 er, .int .i64 ek, .int .i64 c, .int .i64 d] 78) (fun i => i == 6 || i == 7) 7 (by kernel_rfl) rfl (by kernel_rfl) (by kernel_rfl) (by kernel_rfl) ?_
  refine withFrP (N := 169) rfl ?_
  intro f0 F0 hff
  have ee0 : f0 0 = Value.pointer (some ⟨pb, 0, none⟩) := hff 0
  have ee4 : f0 4 = Value.pointer (some ⟨p4, 0, none⟩) := hff 4
  clear hff
  refine lyp F0 rfl HC0 rfl (by omega) (wanted_none rfl) (v := Value.pointer (some ⟨pb, 0, none⟩)) (fun wr hwr => by simp only [execOp, (F0.eval 0 (by omega)).trans (show _ = Value.pointer (some ⟨pb, 0, none⟩) from by simp [upd, ee0, ee4])]; first | rfl | simp [go_sem]) fun F1 => ?_
  refine lyp F1 rfl HC0 rfl (by omega) (wanted_none rfl) (v := Value.pointer (some ⟨pb, 0, none⟩)) (fun wr hwr => by simp only [execOp, (F1.eval 58 (by omega)).trans (show _ = Value.pointer (some ⟨pb, 0, none⟩) from by simp [upd, ee0, ee4])]; simp [go_sem]) fun F2 => ?_
  refine lyp F2 rfl HC0 rfl (by omega) (wanted_none rfl) (v := Value.pointer (some ⟨pb, 0, none⟩)) (fun wr hwr => by simp only [execOp, (F2.eval 59 (by omega)).trans (show _ = Value.pointer (some ⟨pb, 0, none⟩) from by simp [upd, ee0, ee4])]; simp [go_sem]) fun F3 => ?_
  refine lyp F3 rfl HC0 rfl (by omega) (wanted_none rfl) (v := Value.pointer (some ⟨mb, 0, none⟩)) (fun wr hwr => by simp only [execOp, (F3.eval 60 (by omega)).trans (show _ = Value.pointer (some ⟨pb, 0, none⟩) from by simp [upd, ee0, ee4])]; simp [go_sem, hwr.1]) fun F4 => ?_
  refine lyp F4 rfl HC0 rfl (by omega) (wanted_none rfl) (v := Value.pointer (some ⟨p4, 8, none⟩)) (fun wr hwr => by simp only [execOp, (F4.eval 4 (by omega)).trans (show _ = Value.pointer (some ⟨p4, 0, none⟩) from by simp [upd, ee0, ee4])]; simp [go_sem]) fun F5 => ?_
  refine lyp F5 rfl HC0 rfl (by omega) (wanted_none rfl) (v := Value.agg #[Value.int .i64 er, Value.int .i64 ek]) (fun wr hwr => by have h0 := hwr.2.2.cell 8; have h1 := hwr.2.2.cell 9; simp only [execOp, (F5.eval 62 (by omega)).trans (show _ = Value.pointer (some ⟨p4, 8, none⟩) from by simp [upd, ee0, ee4])]; simp [go_sem, h0, h1]) fun F6 => ?_
  refine lcp F6 rfl HC0 rfl (by omega) (wanted_none rfl) (g := 36) (args := #[Value.pointer (some ⟨mb, 0, none⟩), Value.agg #[Value.int .i64 er, Value.int .i64 ek]]) (by simp only [execOp, resolve, invoke, List.map_toArray, List.map_cons, List.map_nil, (F6.eval 61 (by omega)).trans (show _ = Value.pointer (some ⟨mb, 0, none⟩) from by simp [upd, ee0, ee4]), (F6.eval 63 (by omega)).trans (show _ = Value.agg #[Value.int .i64 er, Value.int .i64 ek] from by simp [upd, ee0, ee4])]; simp [go_sem, Act.eval]) (hear_any ⟨er, ek⟩ _ (pES.mm HSD.out) HX.out) ?_
  rintro e w9 ⟨v1, rfl, ho1, hm1, hc1⟩
  have HS9 : Hid (AS own0 w0 (rowE L 56 6 v1 (enA x e0 ⟨er, ek⟩).length (flatA (enA x e0 ⟨er, ek⟩)) :: pES K hK s pb mb cb (enX x e0 ⟨er, ek⟩) g r R) w9) := pES.step HSD.out ho1 hm1 hc1
  have HC9 : (fun wz : World => wz.cell? ⟨pb, 0, none⟩ = some (.pointer (some ⟨mb, 0, none⟩)) ∧ wz.cell? ⟨pb, 1, none⟩ = some (.pointer (some ⟨g.rb, 0, none⟩)) ∧ Blk wz p4 #[.int .i64 who, .int .i64 2, .int .i64 lim, .int .i64 rts, .int .i64 hld, .bool all, .bool true, .int .i64 frm, .int .i64 er, .int .i64 ek, .int .i64 c, .int .i64 d] 78) w9 := ⟨(pES.cl HS9.out.drop).1, (pES.cl HS9.out.drop).2, hc1.blk (Blk.up (w := W) HB4.out hDR) HPM.out⟩
  have HBN : Hid (Blk w9 p4 #[.int .i64 who, .int .i64 2, .int .i64 lim, .int .i64 rts, .int .i64 hld, .bool all, .bool true, .int .i64 frm, .int .i64 er, .int .i64 ek, .int .i64 c, .int .i64 d] 78) := HC9.2.2
  refine ⟨_, rfl, fun F7 => ?_⟩
  refine lep F7 rfl HC9 rfl (by omega) (wanted_none rfl) (v := v1) (w1 := w9) (by simp only [execOp, (F7.eval 64 (by omega)).trans (show _ = v1 from by simp [upd, ee0, ee4])]; first | rfl | simp [go_sem]) fun F8 => ?_
  refine ⟨fun h => by omega, ?_⟩
  refine hK1 _ _ ?_
  clear F0 F1 F2 F3 F4 F5 F6 F7 F8 ee0 ee4 HC0 HC9 hDR
  simp only [Act.put, List.setIfInBounds_toArray, List.set_cons_succ, List.set_cons_zero]
  have HB4 : Hid (Blk w9 p4 #[.int .i64 who, .int .i64 2, .int .i64 lim, .int .i64 rts, .int .i64 hld, .bool all, .bool true, .int .i64 frm, .int .i64 er, .int .i64 ek, .int .i64 c, .int .i64 d] 78) := HBN.out
  have hltw : p4 < w9.heap.size := HB4.out.lt
  have HSA : Hid (AS own0 w0 (rowE L 56 6 v1 (enA x e0 ⟨er, ek⟩).length (flatA (enA x e0 ⟨er, ek⟩)) :: pES K hK s pb mb cb (enX x e0 ⟨er, ek⟩) g r R) w9) := HS9.out
  clear HBN HS9 HSD HS hc1 hm1 ho1 q1
  obtain ⟨w3, hw3⟩ : ∃ W, W = w9 := ⟨_, rfl⟩
  subst hw3
  go_upto_region 13 with fail
  try rw [show ∀ a : Act, a.put none undef = a from fun _ => rfl]
  have hDR : Below w3.heap.size w3 ({ w3 with drawn := w3.drawn + 1 } : World) := (Below.refl _ _).drew
  have HSD : Hid (AS own0 w0 (rowE L 56 6 v1 (enA x e0 ⟨er, ek⟩).length (flatA (enA x e0 ⟨er, ek⟩)) :: pES K hK s pb mb cb (enX x e0 ⟨er, ek⟩) g r R) ({ w3 with drawn := w3.drawn + 1 } : World)) := HSA.out.more hDR
  have HC0 : (fun wz : World => wz.cell? ⟨pb, 0, none⟩ = some (.pointer (some ⟨mb, 0, none⟩)) ∧ wz.cell? ⟨pb, 1, none⟩ = some (.pointer (some ⟨g.rb, 0, none⟩)) ∧ Blk wz p4 #[.int .i64 who, .int .i64 2, .int .i64 lim, .int .i64 rts, .int .i64 hld, .bool all, .bool true, .int .i64 frm, .int .i64 er, .int .i64 ek, .int .i64 c, .int .i64 d] 78) ({ w3 with drawn := w3.drawn + 1 } : World) := ⟨(pES.cl HSD.out.drop).1, (pES.cl HSD.out.drop).2, Blk.up (w := w3) HB4.out hDR⟩
  refine wp_region_mix (fun wz : World => wz.cell? ⟨pb, 0, none⟩ = some (.pointer (some ⟨mb, 0, none⟩)) ∧ wz.cell? ⟨pb, 1, none⟩ = some (.pointer (some ⟨g.rb, 0, none⟩)) ∧ Blk wz p4 #[.int .i64 who, .int .i64 2, .int .i64 lim, .int .i64 rts, .int .i64 hld, .bool all, .bool true, .int .i64 frm, .int .i64 er, .int .i64 ek, .int .i64 c, .int .i64 d] 78) (fun i => i == 6 || i == 7) 7 (by kernel_rfl) rfl (by kernel_rfl) (by kernel_rfl) (by kernel_rfl) ?_
  refine withFrP (N := 169) rfl ?_
  intro f0 F0 hff
  have ee0 : f0 0 = Value.pointer (some ⟨pb, 0, none⟩) := hff 0
  have ee4 : f0 4 = Value.pointer (some ⟨p4, 0, none⟩) := hff 4
  clear hff
  refine lyp F0 rfl HC0 rfl (by omega) (wanted_none rfl) (v := Value.pointer (some ⟨pb, 0, none⟩)) (fun wr hwr => by simp only [execOp, (F0.eval 0 (by omega)).trans (show _ = Value.pointer (some ⟨pb, 0, none⟩) from by simp [upd, ee0, ee4])]; first | rfl | simp [go_sem]) fun F1 => ?_
  refine lyp F1 rfl HC0 rfl (by omega) (wanted_none rfl) (v := Value.pointer (some ⟨pb, 0, none⟩)) (fun wr hwr => by simp only [execOp, (F1.eval 65 (by omega)).trans (show _ = Value.pointer (some ⟨pb, 0, none⟩) from by simp [upd, ee0, ee4])]; simp [go_sem]) fun F2 => ?_
  refine lyp F2 rfl HC0 rfl (by omega) (wanted_none rfl) (v := Value.pointer (some ⟨pb, 1, none⟩)) (fun wr hwr => by simp only [execOp, (F2.eval 66 (by omega)).trans (show _ = Value.pointer (some ⟨pb, 0, none⟩) from by simp [upd, ee0, ee4])]; simp [go_sem]) fun F3 => ?_
  refine lyp F3 rfl HC0 rfl (by omega) (wanted_none rfl) (v := Value.pointer (some ⟨g.rb, 0, none⟩)) (fun wr hwr => by simp only [execOp, (F3.eval 67 (by omega)).trans (show _ = Value.pointer (some ⟨pb, 1, none⟩) from by simp [upd, ee0, ee4])]; simp [go_sem, hwr.2.1]) fun F4 => ?_
  refine lyp F4 rfl HC0 rfl (by omega) (wanted_none rfl) (v := Value.pointer (some ⟨p4, 8, none⟩)) (fun wr hwr => by simp only [execOp, (F4.eval 4 (by omega)).trans (show _ = Value.pointer (some ⟨p4, 0, none⟩) from by simp [upd, ee0, ee4])]; simp [go_sem]) fun F5 => ?_
  refine lyp F5 rfl HC0 rfl (by omega) (wanted_none rfl) (v := Value.agg #[Value.int .i64 er, Value.int .i64 ek]) (fun wr hwr => by have h0 := hwr.2.2.cell 8; have h1 := hwr.2.2.cell 9; simp only [execOp, (F5.eval 69 (by omega)).trans (show _ = Value.pointer (some ⟨p4, 8, none⟩) from by simp [upd, ee0, ee4])]; simp [go_sem, h0, h1]) fun F6 => ?_
  refine lcp F6 rfl HC0 rfl (by omega) (wanted_none rfl) (g := 48) (args := #[Value.pointer (some ⟨g.rb, 0, none⟩), Value.agg #[Value.int .i64 er, Value.int .i64 ek]]) (by simp only [execOp, resolve, invoke, List.map_toArray, List.map_cons, List.map_nil, (F6.eval 68 (by omega)).trans (show _ = Value.pointer (some ⟨g.rb, 0, none⟩) from by simp [upd, ee0, ee4]), (F6.eval 70 (by omega)).trans (show _ = Value.agg #[Value.int .i64 er, Value.int .i64 ek] from by simp [upd, ee0, ee4])]; simp [go_sem, Act.eval]) (rhear_any ⟨er, ek⟩ _ (pES.rm HSD.out.drop) HA.out HX.out (by have := HSZ.out; unfold RV.sz at this; omega)) ?_
  rintro e w9 ⟨v2, rfl, ho2, g5, hm5, hs5⟩
  have HRB : Hid (g5.rb = g.rb) := hs5.1
  have hch5 := hs5.2.1
  have HSR : Hid (AS own0 w0 (rowE L 56 6 v1 (enA x e0 ⟨er, ek⟩).length (flatA (enA x e0 ⟨er, ek⟩)) :: pES K hK s pb mb cb (enX x e0 ⟨er, ek⟩) g5 (enR x r e0 ⟨er, ek⟩) R) w9) := pES.ref (F := [rowE L 56 6 v1 (enA x e0 ⟨er, ek⟩).length (flatA (enA x e0 ⟨er, ek⟩))]) HSD.out hm5 hs5
  have HC9 : (fun wz : World => wz.cell? ⟨pb, 0, none⟩ = some (.pointer (some ⟨mb, 0, none⟩)) ∧ wz.cell? ⟨pb, 1, none⟩ = some (.pointer (some ⟨g.rb, 0, none⟩)) ∧ Blk wz p4 #[.int .i64 who, .int .i64 2, .int .i64 lim, .int .i64 rts, .int .i64 hld, .bool all, .bool true, .int .i64 frm, .int .i64 er, .int .i64 ek, .int .i64 c, .int .i64 d] 78) w9 := ⟨(pES.cl HSR.out.drop).1, by rw [← HRB.out]; exact (pES.cl HSR.out.drop).2, hch5.blk (Blk.up (w := w3) HB4.out hDR) HPR.out⟩
  have HO2 : Hid _ := ho2
  refine ⟨_, rfl, fun F7 => ?_⟩
  refine lep F7 rfl HC9 rfl (by omega) (wanted_none rfl) (v := v2) (w1 := w9) (by simp only [execOp, (F7.eval 71 (by omega)).trans (show _ = v2 from by simp [upd, ee0, ee4])]; first | rfl | simp [go_sem]) fun F8 => ?_
  refine ⟨fun h => by omega, ?_⟩
  clear F0 F1 F2 F3 F4 F5 F6 F7 F8 ee0 ee4 HC0 HC9 hDR
  simp only [Act.put, List.setIfInBounds_toArray, List.set_cons_succ, List.set_cons_zero]
  clear HSD hch5 hs5 ho2
  clear hm5
  go_wp2_with (first
    | (go_at_call 53; refine Calls.mono (same_any _ (show w9.ownsRow L 56 6 v1 _ _ from HSR.out.head) HO2.out) ?_; rintro e w6 ⟨rfl, hb6⟩; have HS6 : Hid _ := HSR.out.more hb6; clear hb6)
    | (go_at_call 54; refine Calls.mono (pES.putA HS6.out HLN.out (by have := HCN.out; omega)) ?_; rintro e w7 ⟨rfl, s7, hs7, hc7⟩; have HS7 : Hid _ := hs7; have HC7 : Hid _ := hc7; clear hs7 hc7)
    | (go_at_call 55; refine Calls.mono (looks_any w7 HS7.out HA2.out HX2.out (pES.lw HS7.out).1 (pES.lw HS7.out).2 (by have := HCN.out; have := HC7.out; omega)) ?_; rintro e w8 ⟨rfl, s8, hs8, hc8⟩; have HS8 : Hid _ := hs8; have HC8 : Hid _ := hc8; clear hs8 hc8)
    | fail)
  go_ret
  exact ⟨rfl, s8, _, HS8.out, by have := HC7.out; have := HC8.out; omega⟩
end Go.Proofs.Ytjojhhkbebddmaa
namespace Go.Proofs.Ytjojhhkbebddmaa
open Go.RowKit Go.PlainAid
set_option linter.unusedVariables false
set_option linter.unusedSimpArgs false
set_option maxRecDepth 100000 in
set_option maxHeartbeats 12800000 in
theorem pl_3_false {σ : Type} {L kb pb mb cb : Nat} {K : Keeper σ L kb} {hK : KFr K} {s : σ} {x : EV} {g : RG} {r : RV} {R : List (Ent L)} {own0 : Nat → Prop} {w0 : World} (who lim rts hld frm a b c d er ek : Int) (all : Bool) (w : World) (h : AS own0 w0 (pES K hK s pb mb cb x g r R) w) (ha : Agr x r) (hx : x.Nm) (hsz : r.sz ≤ 999999980) (hcnt : K.cnt s ≤ 999999999900) (hE : liveE x x.me = ⟨er, ek⟩) : Calls Try.prog 27 #[.pointer (some ⟨pb, 0, none⟩), .agg #[.int .i64 who, .int .i64 3, .int .i64 lim, .int .i64 rts, .int .i64 hld, .bool all, .bool false, .int .i64 frm, .int .i64 a, .int .i64 b, .int .i64 c, .int .i64 d], .pointer (some ⟨kb, 0, none⟩)] w fun e w' => e = .returned (.bool true) ∧ ∃ s' g', AS own0 w0 (pES K hK s' pb mb cb (enX x ⟨a, b⟩ ⟨c, d⟩) g' (enR x r ⟨a, b⟩ ⟨c, d⟩) R) w' ∧ K.cnt s' ≤ K.cnt s + 36 := by
  have HX : Hid _ := hx
  have HA : Hid _ := ha
  have HX2 : Hid (EV.Nm (enX x ⟨a, b⟩ ⟨c, d⟩)) := enX_nm hx ⟨a, b⟩ ⟨c, d⟩
  have HA2 : Hid (Agr (enX x ⟨a, b⟩ ⟨c, d⟩) (enR x r ⟨a, b⟩ ⟨c, d⟩)) := show Agr (enX x ⟨a, b⟩ ⟨c, d⟩) (enR x r ⟨a, b⟩ ⟨c, d⟩) from ha.en ⟨a, b⟩ ⟨c, d⟩ _
  have HLN : Hid ((enA x ⟨a, b⟩ ⟨c, d⟩).length ≤ 1000000) := show (enA x ⟨a, b⟩ ⟨c, d⟩).length ≤ 1000000 from Nat.le_trans (turnA_len _ _) (by decide)
  have HSZ : Hid _ := hsz
  have HCN : Hid _ := hcnt
  have HLB : Hid _ := ha.lastB
  obtain ⟨p4, hp4⟩ : ∃ p, p = w.heap.size := ⟨_, rfl⟩
  have HP4 : Hid (∀ k, has (pES K hK s pb mb cb x g r R) k → k < p4) := show ∀ k, has (pES K hK s pb mb cb x g r R) k → k < p4 from fun k hk => by rw [hp4]; exact (h.h.typ hk).2
  have HPM : Hid (¬ mown mb cb p4) := show ¬ mown mb cb p4 from fun e => by have := HP4.out p4 (by unfold pES; rw [has_cons, has_cons, has_cons]; exact .inr (.inr (.inl e))); omega
  have HPR : Hid (¬ rown g p4) := show ¬ rown g p4 from fun e => by have := HP4.out p4 (by unfold pES; rw [has_cons, has_cons, has_cons, has_cons]; exact .inr (.inr (.inr (.inl e)))); omega
  have hbW : Below w.heap.size w (w.alloc (.cells #[.int .i64 who, .int .i64 3, .int .i64 lim, .int .i64 rts, .int .i64 hld, .bool all, .bool false, .int .i64 frm, .int .i64 a, .int .i64 b, .int .i64 c, .int .i64 d] 78)) := (Below.refl _ _).alloc (Nat.le_refl _) _
  have HS0 : Hid (AS own0 w0 (pES K hK s pb mb cb x g r R) (w.alloc (.cells #[.int .i64 who, .int .i64 3, .int .i64 lim, .int .i64 rts, .int .i64 hld, .bool all, .bool false, .int .i64 frm, .int .i64 a, .int .i64 b, .int .i64 c, .int .i64 d] 78))) := h.more hbW
  have HB0 : Hid (Blk (w.alloc (.cells #[.int .i64 who, .int .i64 3, .int .i64 lim, .int .i64 rts, .int .i64 hld, .bool all, .bool false, .int .i64 frm, .int .i64 a, .int .i64 b, .int .i64 c, .int .i64 d] 78)) p4 #[.int .i64 who, .int .i64 3, .int .i64 lim, .int .i64 rts, .int .i64 hld, .bool all, .bool false, .int .i64 frm, .int .i64 a, .int .i64 b, .int .i64 c, .int .i64 d] 78) := show Blk _ _ _ _ from by rw [hp4]; exact heap_alloc_new w _
  have hlt4 : p4 < (w.alloc (.cells #[.int .i64 who, .int .i64 3, .int .i64 lim, .int .i64 rts, .int .i64 hld, .bool all, .bool false, .int .i64 frm, .int .i64 a, .int .i64 b, .int .i64 c, .int .i64 d] 78)).heap.size := HB0.out.lt
  clear h ha hx hsz hcnt hbW hE
  unfold epV at *
  go_enter Try.func27, Try.ntmps27
  go_upto_region 1 with fail
  try rw [← hp4]
  clear hp4
  generalize w.alloc (.cells #[.int .i64 who, .int .i64 3, .int .i64 lim, .int .i64 rts, .int .i64 hld, .bool all, .bool false, .int .i64 frm, .int .i64 a, .int .i64 b, .int .i64 c, .int .i64 d] 78) = W0 at *
  have hq6 : W0.cell? ⟨p4, 6, none⟩ = some (.bool false) := HB0.out.cell 6
  obtain ⟨c0, c1⟩ := pES.cl HS0.out
  go_upto_region 3 with fail
  have HB4 : Hid (Blk W0 p4 #[.int .i64 who, .int .i64 3, .int .i64 lim, .int .i64 rts, .int .i64 hld, .bool all, .bool false, .int .i64 frm, .int .i64 a, .int .i64 b, .int .i64 c, .int .i64 d] 78) := HB0.out
  have HS : Hid (AS own0 w0 (pES K hK s pb mb cb x g r R) W0) := HS0.out
  clear hq6 c0 c1
  have hWW : ∃ W, W = W0 := ⟨_, rfl⟩
  obtain ⟨W, hWW⟩ := hWW
  subst hWW
  have q1 : W.cell? ⟨p4, 1, none⟩ = some (.int .i64 3) := HB4.out.cell 1
  have hlt4W : p4 < W.heap.size := HB4.out.lt
  clear HS0 HB0 hlt4
  go_upto_region 15 with fail
  rename_i K1 hK1
  try rw [show ∀ a : Act, a.put none undef = a from fun _ => rfl]
  have hDR : Below W.heap.size W ({ W with drawn := W.drawn + 1 } : World) := (Below.refl _ _).drew
  have HSD : Hid (AS own0 w0 (pES K hK s pb mb cb x g r R) ({ W with drawn := W.drawn + 1 } : World)) := HS.out.more hDR
  have HC0 : (fun wz : World => wz.cell? ⟨pb, 0, none⟩ = some (.pointer (some ⟨mb, 0, none⟩)) ∧ wz.cell? ⟨pb, 1, none⟩ = some (.pointer (some ⟨g.rb, 0, none⟩)) ∧ Blk wz p4 #[.int .i64 who, .int .i64 3, .int .i64 lim, .int .i64 rts, .int .i64 hld, .bool all, .bool false, .int .i64 frm, .int .i64 a, .int .i64 b, .int .i64 c, .int .i64 d] 78) ({ W with drawn := W.drawn + 1 } : World) := ⟨(pES.cl HSD.out).1, (pES.cl HSD.out).2, Blk.up (w := W) HB4.out hDR⟩
  refine wp_region_mix (fun wz : World => wz.cell? ⟨pb, 0, none⟩ = some (.pointer (some ⟨mb, 0, none⟩)) ∧ wz.cell? ⟨pb, 1, none⟩ = some (.pointer (some ⟨g.rb, 0, none⟩)) ∧ Blk wz p4 #[.int .i64 who, .int .i64 3, .int .i64 lim, .int .i64 rts, .int .i64 hld, .bool all, .bool false, .int .i64 frm, .int .i64 a, .int .i64 b, .int .i64 c, .int .i64 d] 78) (fun i => i == 8 || i == 9) 9 (by kernel_rfl) rfl (by kernel_rfl) (by kernel_rfl) (by kernel_rfl) ?_
  refine withFrP (N := 169) rfl ?_
  intro f0 F0 hff
  have ee0 : f0 0 = Value.pointer (some ⟨pb, 0, none⟩) := hff 0
  have ee4 : f0 4 = Value.pointer (some ⟨p4, 0, none⟩) := hff 4
  clear hff
  refine lyp F0 rfl HC0 rfl (by omega) (wanted_none rfl) (v := Value.pointer (some ⟨pb, 0, none⟩)) (fun wr hwr => by simp only [execOp, (F0.eval 0 (by omega)).trans (show _ = Value.pointer (some ⟨pb, 0, none⟩) from by simp [upd, ee0, ee4])]; first | rfl | simp [go_sem]) fun F1 => ?_
  refine lyp F1 rfl HC0 rfl (by omega) (wanted_none rfl) (v := Value.pointer (some ⟨pb, 0, none⟩)) (fun wr hwr => by simp only [execOp, (F1.eval 74 (by omega)).trans (show _ = Value.pointer (some ⟨pb, 0, none⟩) from by simp [upd, ee0, ee4])]; simp [go_sem]) fun F2 => ?_
  refine lyp F2 rfl HC0 rfl (by omega) (wanted_none rfl) (v := Value.pointer (some ⟨pb, 0, none⟩)) (fun wr hwr => by simp only [execOp, (F2.eval 75 (by omega)).trans (show _ = Value.pointer (some ⟨pb, 0, none⟩) from by simp [upd, ee0, ee4])]; simp [go_sem]) fun F3 => ?_
  refine lyp F3 rfl HC0 rfl (by omega) (wanted_none rfl) (v := Value.pointer (some ⟨mb, 0, none⟩)) (fun wr hwr => by simp only [execOp, (F3.eval 76 (by omega)).trans (show _ = Value.pointer (some ⟨pb, 0, none⟩) from by simp [upd, ee0, ee4])]; simp [go_sem, hwr.1]) fun F4 => ?_
  refine lyp F4 rfl HC0 rfl (by omega) (wanted_none rfl) (v := Value.pointer (some ⟨p4, 8, none⟩)) (fun wr hwr => by simp only [execOp, (F4.eval 4 (by omega)).trans (show _ = Value.pointer (some ⟨p4, 0, none⟩) from by simp [upd, ee0, ee4])]; simp [go_sem]) fun F5 => ?_
  refine lyp F5 rfl HC0 rfl (by omega) (wanted_none rfl) (v := Value.agg #[Value.int .i64 a, Value.int .i64 b]) (fun wr hwr => by have h0 := hwr.2.2.cell 8; have h1 := hwr.2.2.cell 9; simp only [execOp, (F5.eval 78 (by omega)).trans (show _ = Value.pointer (some ⟨p4, 8, none⟩) from by simp [upd, ee0, ee4])]; simp [go_sem, h0, h1]) fun F6 => ?_
  refine lyp F6 rfl HC0 rfl (by omega) (wanted_none rfl) (v := Value.pointer (some ⟨p4, 10, none⟩)) (fun wr hwr => by simp only [execOp, (F6.eval 4 (by omega)).trans (show _ = Value.pointer (some ⟨p4, 0, none⟩) from by simp [upd, ee0, ee4])]; simp [go_sem]) fun F7 => ?_
  refine lyp F7 rfl HC0 rfl (by omega) (wanted_none rfl) (v := Value.agg #[Value.int .i64 c, Value.int .i64 d]) (fun wr hwr => by have h0 := hwr.2.2.cell 10; have h1 := hwr.2.2.cell 11; simp only [execOp, (F7.eval 80 (by omega)).trans (show _ = Value.pointer (some ⟨p4, 10, none⟩) from by simp [upd, ee0, ee4])]; simp [go_sem, h0, h1]) fun F8 => ?_
  refine lcp F8 rfl HC0 rfl (by omega) (wanted_none rfl) (g := 37) (args := #[Value.pointer (some ⟨mb, 0, none⟩), Value.agg #[Value.int .i64 a, Value.int .i64 b], Value.agg #[Value.int .i64 c, Value.int .i64 d]]) (by simp only [execOp, resolve, invoke, List.map_toArray, List.map_cons, List.map_nil, (F8.eval 77 (by omega)).trans (show _ = Value.pointer (some ⟨mb, 0, none⟩) from by simp [upd, ee0, ee4]), (F8.eval 79 (by omega)).trans (show _ = Value.agg #[Value.int .i64 a, Value.int .i64 b] from by simp [upd, ee0, ee4]), (F8.eval 81 (by omega)).trans (show _ = Value.agg #[Value.int .i64 c, Value.int .i64 d] from by simp [upd, ee0, ee4])]; simp [go_sem, Act.eval]) (end_any ⟨a, b⟩ ⟨c, d⟩ _ (pES.mm HSD.out) HX.out) ?_
  rintro e w9 ⟨v1, rfl, ho1, hm1, hc1⟩
  have HS9 : Hid (AS own0 w0 (rowE L 56 6 v1 (enA x ⟨a, b⟩ ⟨c, d⟩).length (flatA (enA x ⟨a, b⟩ ⟨c, d⟩)) :: pES K hK s pb mb cb (enX x ⟨a, b⟩ ⟨c, d⟩) g r R) w9) := pES.step HSD.out ho1 hm1 hc1
  have HC9 : (fun wz : World => wz.cell? ⟨pb, 0, none⟩ = some (.pointer (some ⟨mb, 0, none⟩)) ∧ wz.cell? ⟨pb, 1, none⟩ = some (.pointer (some ⟨g.rb, 0, none⟩)) ∧ Blk wz p4 #[.int .i64 who, .int .i64 3, .int .i64 lim, .int .i64 rts, .int .i64 hld, .bool all, .bool false, .int .i64 frm, .int .i64 a, .int .i64 b, .int .i64 c, .int .i64 d] 78) w9 := ⟨(pES.cl HS9.out.drop).1, (pES.cl HS9.out.drop).2, hc1.blk (Blk.up (w := W) HB4.out hDR) HPM.out⟩
  have HBN : Hid (Blk w9 p4 #[.int .i64 who, .int .i64 3, .int .i64 lim, .int .i64 rts, .int .i64 hld, .bool all, .bool false, .int .i64 frm, .int .i64 a, .int .i64 b, .int .i64 c, .int .i64 d] 78) := HC9.2.2
  refine ⟨_, rfl, fun F9 => ?_⟩
  refine lep F9 rfl HC9 rfl (by omega) (wanted_none rfl) (v := v1) (w1 := w9) (by simp only [execOp, (F9.eval 82 (by omega)).trans (show _ = v1 from by simp [upd, ee0, ee4])]; first | rfl | simp [go_sem]) fun F10 => ?_
  refine ⟨fun h => by omega, ?_⟩
  refine hK1 _ _ ?_
  clear F0 F1 F2 F3 F4 F5 F6 F7 F8 F9 F10 ee0 ee4 HC0 HC9 hDR
  simp only [Act.put, List.setIfInBounds_toArray, List.set_cons_succ, List.set_cons_zero]
  have HB4 : Hid (Blk w9 p4 #[.int .i64 who, .int .i64 3, .int .i64 lim, .int .i64 rts, .int .i64 hld, .bool all, .bool false, .int .i64 frm, .int .i64 a, .int .i64 b, .int .i64 c, .int .i64 d] 78) := HBN.out
  have hltw : p4 < w9.heap.size := HB4.out.lt
  have HSA : Hid (AS own0 w0 (rowE L 56 6 v1 (enA x ⟨a, b⟩ ⟨c, d⟩).length (flatA (enA x ⟨a, b⟩ ⟨c, d⟩)) :: pES K hK s pb mb cb (enX x ⟨a, b⟩ ⟨c, d⟩) g r R) w9) := HS9.out
  clear HBN HS9 HSD HS hc1 hm1 ho1 q1
  obtain ⟨w3, hw3⟩ : ∃ W, W = w9 := ⟨_, rfl⟩
  subst hw3
  go_upto_region 16 with fail
  try rw [show ∀ a : Act, a.put none undef = a from fun _ => rfl]
  have hDR : Below w3.heap.size w3 ({ w3 with drawn := w3.drawn + 1 } : World) := (Below.refl _ _).drew
  have HSD : Hid (AS own0 w0 (rowE L 56 6 v1 (enA x ⟨a, b⟩ ⟨c, d⟩).length (flatA (enA x ⟨a, b⟩ ⟨c, d⟩)) :: pES K hK s pb mb cb (enX x ⟨a, b⟩ ⟨c, d⟩) g r R) ({ w3 with drawn := w3.drawn + 1 } : World)) := HSA.out.more hDR
  have HC0 : (fun wz : World => wz.cell? ⟨pb, 0, none⟩ = some (.pointer (some ⟨mb, 0, none⟩)) ∧ wz.cell? ⟨pb, 1, none⟩ = some (.pointer (some ⟨g.rb, 0, none⟩)) ∧ Blk wz p4 #[.int .i64 who, .int .i64 3, .int .i64 lim, .int .i64 rts, .int .i64 hld, .bool all, .bool false, .int .i64 frm, .int .i64 a, .int .i64 b, .int .i64 c, .int .i64 d] 78) ({ w3 with drawn := w3.drawn + 1 } : World) := ⟨(pES.cl HSD.out.drop).1, (pES.cl HSD.out.drop).2, Blk.up (w := w3) HB4.out hDR⟩
  refine wp_region_mix (fun wz : World => wz.cell? ⟨pb, 0, none⟩ = some (.pointer (some ⟨mb, 0, none⟩)) ∧ wz.cell? ⟨pb, 1, none⟩ = some (.pointer (some ⟨g.rb, 0, none⟩)) ∧ Blk wz p4 #[.int .i64 who, .int .i64 3, .int .i64 lim, .int .i64 rts, .int .i64 hld, .bool all, .bool false, .int .i64 frm, .int .i64 a, .int .i64 b, .int .i64 c, .int .i64 d] 78) (fun i => i == 8 || i == 9) 9 (by kernel_rfl) rfl (by kernel_rfl) (by kernel_rfl) (by kernel_rfl) ?_
  refine withFrP (N := 169) rfl ?_
  intro f0 F0 hff
  have ee0 : f0 0 = Value.pointer (some ⟨pb, 0, none⟩) := hff 0
  have ee4 : f0 4 = Value.pointer (some ⟨p4, 0, none⟩) := hff 4
  clear hff
  refine lyp F0 rfl HC0 rfl (by omega) (wanted_none rfl) (v := Value.pointer (some ⟨pb, 0, none⟩)) (fun wr hwr => by simp only [execOp, (F0.eval 0 (by omega)).trans (show _ = Value.pointer (some ⟨pb, 0, none⟩) from by simp [upd, ee0, ee4])]; first | rfl | simp [go_sem]) fun F1 => ?_
  refine lyp F1 rfl HC0 rfl (by omega) (wanted_none rfl) (v := Value.pointer (some ⟨pb, 0, none⟩)) (fun wr hwr => by simp only [execOp, (F1.eval 83 (by omega)).trans (show _ = Value.pointer (some ⟨pb, 0, none⟩) from by simp [upd, ee0, ee4])]; simp [go_sem]) fun F2 => ?_
  refine lyp F2 rfl HC0 rfl (by omega) (wanted_none rfl) (v := Value.pointer (some ⟨pb, 1, none⟩)) (fun wr hwr => by simp only [execOp, (F2.eval 84 (by omega)).trans (show _ = Value.pointer (some ⟨pb, 0, none⟩) from by simp [upd, ee0, ee4])]; simp [go_sem]) fun F3 => ?_
  refine lyp F3 rfl HC0 rfl (by omega) (wanted_none rfl) (v := Value.pointer (some ⟨g.rb, 0, none⟩)) (fun wr hwr => by simp only [execOp, (F3.eval 85 (by omega)).trans (show _ = Value.pointer (some ⟨pb, 1, none⟩) from by simp [upd, ee0, ee4])]; simp [go_sem, hwr.2.1]) fun F4 => ?_
  refine lyp F4 rfl HC0 rfl (by omega) (wanted_none rfl) (v := Value.pointer (some ⟨p4, 8, none⟩)) (fun wr hwr => by simp only [execOp, (F4.eval 4 (by omega)).trans (show _ = Value.pointer (some ⟨p4, 0, none⟩) from by simp [upd, ee0, ee4])]; simp [go_sem]) fun F5 => ?_
  refine lyp F5 rfl HC0 rfl (by omega) (wanted_none rfl) (v := Value.agg #[Value.int .i64 a, Value.int .i64 b]) (fun wr hwr => by have h0 := hwr.2.2.cell 8; have h1 := hwr.2.2.cell 9; simp only [execOp, (F5.eval 87 (by omega)).trans (show _ = Value.pointer (some ⟨p4, 8, none⟩) from by simp [upd, ee0, ee4])]; simp [go_sem, h0, h1]) fun F6 => ?_
  refine lyp F6 rfl HC0 rfl (by omega) (wanted_none rfl) (v := Value.pointer (some ⟨p4, 10, none⟩)) (fun wr hwr => by simp only [execOp, (F6.eval 4 (by omega)).trans (show _ = Value.pointer (some ⟨p4, 0, none⟩) from by simp [upd, ee0, ee4])]; simp [go_sem]) fun F7 => ?_
  refine lyp F7 rfl HC0 rfl (by omega) (wanted_none rfl) (v := Value.agg #[Value.int .i64 c, Value.int .i64 d]) (fun wr hwr => by have h0 := hwr.2.2.cell 10; have h1 := hwr.2.2.cell 11; simp only [execOp, (F7.eval 89 (by omega)).trans (show _ = Value.pointer (some ⟨p4, 10, none⟩) from by simp [upd, ee0, ee4])]; simp [go_sem, h0, h1]) fun F8 => ?_
  refine lcp F8 rfl HC0 rfl (by omega) (wanted_none rfl) (g := 49) (args := #[Value.pointer (some ⟨g.rb, 0, none⟩), Value.agg #[Value.int .i64 a, Value.int .i64 b], Value.agg #[Value.int .i64 c, Value.int .i64 d]]) (by simp only [execOp, resolve, invoke, List.map_toArray, List.map_cons, List.map_nil, (F8.eval 86 (by omega)).trans (show _ = Value.pointer (some ⟨g.rb, 0, none⟩) from by simp [upd, ee0, ee4]), (F8.eval 88 (by omega)).trans (show _ = Value.agg #[Value.int .i64 a, Value.int .i64 b] from by simp [upd, ee0, ee4]), (F8.eval 90 (by omega)).trans (show _ = Value.agg #[Value.int .i64 c, Value.int .i64 d] from by simp [upd, ee0, ee4])]; simp [go_sem, Act.eval]) (rend_any ⟨a, b⟩ ⟨c, d⟩ _ (pES.rm HSD.out.drop) HA.out HX.out (by have := HSZ.out; unfold RV.sz at this; omega)) ?_
  rintro e w9 ⟨v2, rfl, ho2, g5, hm5, hs5⟩
  have HRB : Hid (g5.rb = g.rb) := hs5.1
  have hch5 := hs5.2.1
  have HSR : Hid (AS own0 w0 (rowE L 56 6 v1 (enA x ⟨a, b⟩ ⟨c, d⟩).length (flatA (enA x ⟨a, b⟩ ⟨c, d⟩)) :: pES K hK s pb mb cb (enX x ⟨a, b⟩ ⟨c, d⟩) g5 (enR x r ⟨a, b⟩ ⟨c, d⟩) R) w9) := pES.ref (F := [rowE L 56 6 v1 (enA x ⟨a, b⟩ ⟨c, d⟩).length (flatA (enA x ⟨a, b⟩ ⟨c, d⟩))]) HSD.out hm5 hs5
  have HC9 : (fun wz : World => wz.cell? ⟨pb, 0, none⟩ = some (.pointer (some ⟨mb, 0, none⟩)) ∧ wz.cell? ⟨pb, 1, none⟩ = some (.pointer (some ⟨g.rb, 0, none⟩)) ∧ Blk wz p4 #[.int .i64 who, .int .i64 3, .int .i64 lim, .int .i64 rts, .int .i64 hld, .bool all, .bool false, .int .i64 frm, .int .i64 a, .int .i64 b, .int .i64 c, .int .i64 d] 78) w9 := ⟨(pES.cl HSR.out.drop).1, by rw [← HRB.out]; exact (pES.cl HSR.out.drop).2, hch5.blk (Blk.up (w := w3) HB4.out hDR) HPR.out⟩
  have HO2 : Hid _ := ho2
  refine ⟨_, rfl, fun F9 => ?_⟩
  refine lep F9 rfl HC9 rfl (by omega) (wanted_none rfl) (v := v2) (w1 := w9) (by simp only [execOp, (F9.eval 91 (by omega)).trans (show _ = v2 from by simp [upd, ee0, ee4])]; first | rfl | simp [go_sem]) fun F10 => ?_
  refine ⟨fun h => by omega, ?_⟩
  clear F0 F1 F2 F3 F4 F5 F6 F7 F8 F9 F10 ee0 ee4 HC0 HC9 hDR
  simp only [Act.put, List.setIfInBounds_toArray, List.set_cons_succ, List.set_cons_zero]
  clear HSD hch5 hs5 ho2
  clear hm5
  go_wp2_with (first
    | (go_at_call 53; refine Calls.mono (same_any _ (show w9.ownsRow L 56 6 v1 _ _ from HSR.out.head) HO2.out) ?_; rintro e w6 ⟨rfl, hb6⟩; have HS6 : Hid _ := HSR.out.more hb6; clear hb6)
    | (go_at_call 54; refine Calls.mono (pES.putA HS6.out HLN.out (by have := HCN.out; omega)) ?_; rintro e w7 ⟨rfl, s7, hs7, hc7⟩; have HS7 : Hid _ := hs7; have HC7 : Hid _ := hc7; clear hs7 hc7)
    | (go_at_call 55; refine Calls.mono (looks_any w7 HS7.out HA2.out HX2.out (pES.lw HS7.out).1 (pES.lw HS7.out).2 (by have := HCN.out; have := HC7.out; omega)) ?_; rintro e w8 ⟨rfl, s8, hs8, hc8⟩; have HS8 : Hid _ := hs8; have HC8 : Hid _ := hc8; clear hs8 hc8)
    | fail)
  go_ret
  exact ⟨rfl, s8, _, HS8.out, by have := HC7.out; have := HC8.out; omega⟩
set_option maxRecDepth 100000 in
set_option maxHeartbeats 12800000 in
theorem pl_3_true {σ : Type} {L kb pb mb cb : Nat} {K : Keeper σ L kb} {hK : KFr K} {s : σ} {x : EV} {g : RG} {r : RV} {R : List (Ent L)} {own0 : Nat → Prop} {w0 : World} (who lim rts hld frm a b c d er ek : Int) (all : Bool) (w : World) (h : AS own0 w0 (pES K hK s pb mb cb x g r R) w) (ha : Agr x r) (hx : x.Nm) (hsz : r.sz ≤ 999999980) (hcnt : K.cnt s ≤ 999999999900) (hE : liveE x x.me = ⟨er, ek⟩) : Calls Try.prog 27 #[.pointer (some ⟨pb, 0, none⟩), .agg #[.int .i64 who, .int .i64 3, .int .i64 lim, .int .i64 rts, .int .i64 hld, .bool all, .bool true, .int .i64 frm, .int .i64 a, .int .i64 b, .int .i64 c, .int .i64 d], .pointer (some ⟨kb, 0, none⟩)] w fun e w' => e = .returned (.bool true) ∧ ∃ s' g', AS own0 w0 (pES K hK s' pb mb cb (enX x ⟨er, ek⟩ ⟨c, d⟩) g' (enR x r ⟨er, ek⟩ ⟨c, d⟩) R) w' ∧ K.cnt s' ≤ K.cnt s + 36 := by
  have HX : Hid _ := hx
  have HA : Hid _ := ha
  have HX2 : Hid (EV.Nm (enX x ⟨er, ek⟩ ⟨c, d⟩)) := enX_nm hx ⟨er, ek⟩ ⟨c, d⟩
  have HA2 : Hid (Agr (enX x ⟨er, ek⟩ ⟨c, d⟩) (enR x r ⟨er, ek⟩ ⟨c, d⟩)) := show Agr (enX x ⟨er, ek⟩ ⟨c, d⟩) (enR x r ⟨er, ek⟩ ⟨c, d⟩) from ha.en ⟨er, ek⟩ ⟨c, d⟩ _
  have HLN : Hid ((enA x ⟨er, ek⟩ ⟨c, d⟩).length ≤ 1000000) := show (enA x ⟨er, ek⟩ ⟨c, d⟩).length ≤ 1000000 from Nat.le_trans (turnA_len _ _) (by decide)
  have HSZ : Hid _ := hsz
  have HCN : Hid _ := hcnt
  have HLB : Hid _ := ha.lastB
  obtain ⟨p4, hp4⟩ : ∃ p, p = w.heap.size := ⟨_, rfl⟩
  have HP4 : Hid (∀ k, has (pES K hK s pb mb cb x g r R) k → k < p4) := show ∀ k, has (pES K hK s pb mb cb x g r R) k → k < p4 from fun k hk => by rw [hp4]; exact (h.h.typ hk).2
  have HPM : Hid (¬ mown mb cb p4) := show ¬ mown mb cb p4 from fun e => by have := HP4.out p4 (by unfold pES; rw [has_cons, has_cons, has_cons]; exact .inr (.inr (.inl e))); omega
  have HPR : Hid (¬ rown g p4) := show ¬ rown g p4 from fun e => by have := HP4.out p4 (by unfold pES; rw [has_cons, has_cons, has_cons, has_cons]; exact .inr (.inr (.inr (.inl e)))); omega
  have hbW : Below w.heap.size w (w.alloc (.cells #[.int .i64 who, .int .i64 3, .int .i64 lim, .int .i64 rts, .int .i64 hld, .bool all, .bool true, .int .i64 frm, .int .i64 a, .int .i64 b, .int .i64 c, .int .i64 d] 78)) := (Below.refl _ _).alloc (Nat.le_refl _) _
  have HS0 : Hid (AS own0 w0 (pES K hK s pb mb cb x g r R) (w.alloc (.cells #[.int .i64 who, .int .i64 3, .int .i64 lim, .int .i64 rts, .int .i64 hld, .bool all, .bool true, .int .i64 frm, .int .i64 a, .int .i64 b, .int .i64 c, .int .i64 d] 78))) := h.more hbW
  have HB0 : Hid (Blk (w.alloc (.cells #[.int .i64 who, .int .i64 3, .int .i64 lim, .int .i64 rts, .int .i64 hld, .bool all, .bool true, .int .i64 frm, .int .i64 a, .int .i64 b, .int .i64 c, .int .i64 d] 78)) p4 #[.int .i64 who, .int .i64 3, .int .i64 lim, .int .i64 rts, .int .i64 hld, .bool all, .bool true, .int .i64 frm, .int .i64 a, .int .i64 b, .int .i64 c, .int .i64 d] 78) := show Blk _ _ _ _ from by rw [hp4]; exact heap_alloc_new w _
  have hlt4 : p4 < (w.alloc (.cells #[.int .i64 who, .int .i64 3, .int .i64 lim, .int .i64 rts, .int .i64 hld, .bool all, .bool true, .int .i64 frm, .int .i64 a, .int .i64 b, .int .i64 c, .int .i64 d] 78)).heap.size := HB0.out.lt
  have HOW : Hid (∀ W, AS own0 w0 (pES K hK s pb mb cb x g r R) W → Calls Try.prog 46 #[.pointer (some ⟨g.rb, 0, none⟩)] W fun e w' => e = .returned (epV ⟨er, ek⟩) ∧ Below W.heap.size W w') := fun W hW => by rw [← hE]; exact rown_any W (pES.rm hW) ha hx
  have HW0 : Hid (w0.heap.size ≤ p4) := show w0.heap.size ≤ p4 from by rw [hp4]; exact h.chg.size
  clear h ha hx hsz hcnt hbW hE
  unfold epV at *
  go_enter Try.func27, Try.ntmps27
  go_upto_region 1 with fail
  try rw [← hp4]
  clear hp4
  generalize w.alloc (.cells #[.int .i64 who, .int .i64 3, .int .i64 lim, .int .i64 rts, .int .i64 hld, .bool all, .bool true, .int .i64 frm, .int .i64 a, .int .i64 b, .int .i64 c, .int .i64 d] 78) = W0 at *
  have hq6 : W0.cell? ⟨p4, 6, none⟩ = some (.bool true) := HB0.out.cell 6
  obtain ⟨c0, c1⟩ := pES.cl HS0.out
  go_upto_region 3 with (first
    | (go_at_call 46; refine Calls.mono (HOW.out _ HS0.out) ?_; rintro e w1 ⟨rfl, hb1⟩; have hB1 := Blk.up (w := W0) HB0.out hb1; have s8 := hB1.cell 8; have s9 := hB1.cell 9; have f8 := hB1.frozen 8; have f9 := hB1.frozen 9; clear hB1)
    | fail)
  have hc1 : Chg (fun k => k = p4) w1 ((w1.setCell ⟨p4, 8, none⟩ (.int .i64 er)).setCell ⟨p4, 9, none⟩ (.int .i64 ek)) := (setCell_chg _ _ _ _).trans (setCell_chg _ _ _ _) (fun _ _ e => e)
  have HB4 : Hid (Blk ((w1.setCell ⟨p4, 8, none⟩ (.int .i64 er)).setCell ⟨p4, 9, none⟩ (.int .i64 ek)) p4 #[.int .i64 who, .int .i64 3, .int .i64 lim, .int .i64 rts, .int .i64 hld, .bool all, .bool true, .int .i64 frm, .int .i64 er, .int .i64 ek, .int .i64 c, .int .i64 d] 78) := show Blk _ _ _ _ from ((Blk.up (w := W0) HB0.out hb1).set 8 _).set 9 _
  have HS : Hid (AS own0 w0 (pES K hK s pb mb cb x g r R) ((w1.setCell ⟨p4, 8, none⟩ (.int .i64 er)).setCell ⟨p4, 9, none⟩ (.int .i64 ek))) := show AS _ _ _ _ from by
    have h1 := HS0.out.more hb1
    exact ⟨h1.h.chg hc1 (fun k hk e => by have := HP4.out k hk; omega), h1.chg.trans hc1 (fun k hk e => by
      have h2 := HW0.out; omega), h1.new⟩
  generalize (w1.setCell ⟨p4, 8, none⟩ (.int .i64 er)).setCell ⟨p4, 9, none⟩ (.int .i64 ek) = W at *
  clear hc1 hb1 s8 s9 f8 f9 hq6 c0 c1 HOW
  have q1 : W.cell? ⟨p4, 1, none⟩ = some (.int .i64 3) := HB4.out.cell 1
  have hlt4W : p4 < W.heap.size := HB4.out.lt
  clear HS0 HB0 hlt4
  go_upto_region 15 with fail
  rename_i K1 hK1
  try rw [show ∀ a : Act, a.put none undef = a from fun _ => rfl]
  have hDR : Below W.heap.size W ({ W with drawn := W.drawn + 1 } : World) := (Below.refl _ _).drew
  have HSD : Hid (AS own0 w0 (pES K hK s pb mb cb x g r R) ({ W with drawn := W.drawn + 1 } : World)) := HS.out.more hDR
  have HC0 : (fun wz : World => wz.cell? ⟨pb, 0, none⟩ = some (.pointer (some ⟨mb, 0, none⟩)) ∧ wz.cell? ⟨pb, 1, none⟩ = some (.pointer (some ⟨g.rb, 0, none⟩)) ∧ Blk wz p4 #[.int .i64 who, .int .i64 3, .int .i64 lim, .int .i64 rts, .int .i64 hld, .bool all, .bool true, .int .i64 frm, .int .i64 er, .int .i64 ek, .int .i64 c, .int .i64 d] 78) ({ W with drawn := W.drawn + 1 } : World) := ⟨(pES.cl HSD.out).1, (pES.cl HSD.out).2, Blk.up (w := W) HB4.out hDR⟩
  refine wp_region_mix (fun wz : World => wz.cell? ⟨pb, 0, none⟩ = some (.pointer (some ⟨mb, 0, none⟩)) ∧ wz.cell? ⟨pb, 1, none⟩ = some (.pointer (some ⟨g.rb, 0, none⟩)) ∧ Blk wz p4 #[.int .i64 who, .int .i64 3, .int .i64 lim, .int .i64 rts, .int .i64 hld, .bool all, .bool true, .int .i64 frm, .int .i64 er, .int .i64 ek, .int .i64 c, .int .i64 d] 78) (fun i => i == 8 || i == 9) 9 (by kernel_rfl) rfl (by kernel_rfl) (by kernel_rfl) (by kernel_rfl) ?_
  refine withFrP (N := 169) rfl ?_
  intro f0 F0 hff
  have ee0 : f0 0 = Value.pointer (some ⟨pb, 0, none⟩) := hff 0
  have ee4 : f0 4 = Value.pointer (some ⟨p4, 0, none⟩) := hff 4
  clear hff
  refine lyp F0 rfl HC0 rfl (by omega) (wanted_none rfl) (v := Value.pointer (some ⟨pb, 0, none⟩)) (fun wr hwr => by simp only [execOp, (F0.eval 0 (by omega)).trans (show _ = Value.pointer (some ⟨pb, 0, none⟩) from by simp [upd, ee0, ee4])]; first | rfl | simp [go_sem]) fun F1 => ?_
  refine lyp F1 rfl HC0 rfl (by omega) (wanted_none rfl) (v := Value.pointer (some ⟨pb, 0, none⟩)) (fun wr hwr => by simp only [execOp, (F1.eval 74 (by omega)).trans (show _ = Value.pointer (some ⟨pb, 0, none⟩) from by simp [upd, ee0, ee4])]; simp [go_sem]) fun F2 => ?_
  refine lyp F2 rfl HC0 rfl (by omega) (wanted_none rfl) (v := Value.pointer (some ⟨pb, 0, none⟩)) (fun wr hwr => by simp only [execOp, (F2.eval 75 (by omega)).trans (show _ = Value.pointer (some ⟨pb, 0, none⟩) from by simp [upd, ee0, ee4])]; simp [go_sem]) fun F3 => ?_
  refine lyp F3 rfl HC0 rfl (by omega) (wanted_none rfl) (v := Value.pointer (some ⟨mb, 0, none⟩)) (fun wr hwr => by simp only [execOp, (F3.eval 76 (by omega)).trans (show _ = Value.pointer (some ⟨pb, 0, none⟩) from by simp [upd, ee0, ee4])]; simp [go_sem, hwr.1]) fun F4 => ?_
  refine lyp F4 rfl HC0 rfl (by omega) (wanted_none rfl) (v := Value.pointer (some ⟨p4, 8, none⟩)) (fun wr hwr => by simp only [execOp, (F4.eval 4 (by omega)).trans (show _ = Value.pointer (some ⟨p4, 0, none⟩) from by simp [upd, ee0, ee4])]; simp [go_sem]) fun F5 => ?_
  refine lyp F5 rfl HC0 rfl (by omega) (wanted_none rfl) (v := Value.agg #[Value.int .i64 er, Value.int .i64 ek]) (fun wr hwr => by have h0 := hwr.2.2.cell 8; have h1 := hwr.2.2.cell 9; simp only [execOp, (F5.eval 78 (by omega)).trans (show _ = Value.pointer (some ⟨p4, 8, none⟩) from by simp [upd, ee0, ee4])]; simp [go_sem, h0, h1]) fun F6 => ?_
  refine lyp F6 rfl HC0 rfl (by omega) (wanted_none rfl) (v := Value.pointer (some ⟨p4, 10, none⟩)) (fun wr hwr => by simp only [execOp, (F6.eval 4 (by omega)).trans (show _ = Value.pointer (some ⟨p4, 0, none⟩) from by simp [upd, ee0, ee4])]; simp [go_sem]) fun F7 => ?_
  refine lyp F7 rfl HC0 rfl (by omega) (wanted_none rfl) (v := Value.agg #[Value.int .i64 c, Value.int .i64 d]) (fun wr hwr => by have h0 := hwr.2.2.cell 10; have h1 := hwr.2.2.cell 11; simp only [execOp, (F7.eval 80 (by omega)).trans (show _ = Value.pointer (some ⟨p4, 10, none⟩) from by simp [upd, ee0, ee4])]; simp [go_sem, h0, h1]) fun F8 => ?_
  refine lcp F8 rfl HC0 rfl (by omega) (wanted_none rfl) (g := 37) (args := #[Value.pointer (some ⟨mb, 0, none⟩), Value.agg #[Value.int .i64 er, Value.int .i64 ek], Value.agg #[Value.int .i64 c, Value.int .i64 d]]) (by simp only [execOp, resolve, invoke, List.map_toArray, List.map_cons, List.map_nil, (F8.eval 77 (by omega)).trans (show _ = Value.pointer (some ⟨mb, 0, none⟩) from by simp [upd, ee0, ee4]), (F8.eval 79 (by omega)).trans (show _ = Value.agg #[Value.int .i64 er, Value.int .i64 ek] from by simp [upd, ee0, ee4]), (F8.eval 81 (by omega)).trans (show _ = Value.agg #[Value.int .i64 c, Value.int .i64 d] from by simp [upd, ee0, ee4])]; simp [go_sem, Act.eval]) (end_any ⟨er, ek⟩ ⟨c, d⟩ _ (pES.mm HSD.out) HX.out) ?_
  rintro e w9 ⟨v1, rfl, ho1, hm1, hc1⟩
  have HS9 : Hid (AS own0 w0 (rowE L 56 6 v1 (enA x ⟨er, ek⟩ ⟨c, d⟩).length (flatA (enA x ⟨er, ek⟩ ⟨c, d⟩)) :: pES K hK s pb mb cb (enX x ⟨er, ek⟩ ⟨c, d⟩) g r R) w9) := pES.step HSD.out ho1 hm1 hc1
  have HC9 : (fun wz : World => wz.cell? ⟨pb, 0, none⟩ = some (.pointer (some ⟨mb, 0, none⟩)) ∧ wz.cell? ⟨pb, 1, none⟩ = some (.pointer (some ⟨g.rb, 0, none⟩)) ∧ Blk wz p4 #[.int .i64 who, .int .i64 3, .int .i64 lim, .int .i64 rts, .int .i64 hld, .bool all, .bool true, .int .i64 frm, .int .i64 er, .int .i64 ek, .int .i64 c, .int .i64 d] 78) w9 := ⟨(pES.cl HS9.out.drop).1, (pES.cl HS9.out.drop).2, hc1.blk (Blk.up (w := W) HB4.out hDR) HPM.out⟩
  have HBN : Hid (Blk w9 p4 #[.int .i64 who, .int .i64 3, .int .i64 lim, .int .i64 rts, .int .i64 hld, .bool all, .bool true, .int .i64 frm, .int .i64 er, .int .i64 ek, .int .i64 c, .int .i64 d] 78) := HC9.2.2
  refine ⟨_, rfl, fun F9 => ?_⟩
  refine lep F9 rfl HC9 rfl (by omega) (wanted_none rfl) (v := v1) (w1 := w9) (by simp only [execOp, (F9.eval 82 (by omega)).trans (show _ = v1 from by simp [upd, ee0, ee4])]; first | rfl | simp [go_sem]) fun F10 => ?_
  refine ⟨fun h => by omega, ?_⟩
  refine hK1 _ _ ?_
  clear F0 F1 F2 F3 F4 F5 F6 F7 F8 F9 F10 ee0 ee4 HC0 HC9 hDR
  simp only [Act.put, List.setIfInBounds_toArray, List.set_cons_succ, List.set_cons_zero]
  have HB4 : Hid (Blk w9 p4 #[.int .i64 who, .int .i64 3, .int .i64 lim, .int .i64 rts, .int .i64 hld, .bool all, .bool true, .int .i64 frm, .int .i64 er, .int .i64 ek, .int .i64 c, .int .i64 d] 78) := HBN.out
  have hltw : p4 < w9.heap.size := HB4.out.lt
  have HSA : Hid (AS own0 w0 (rowE L 56 6 v1 (enA x ⟨er, ek⟩ ⟨c, d⟩).length (flatA (enA x ⟨er, ek⟩ ⟨c, d⟩)) :: pES K hK s pb mb cb (enX x ⟨er, ek⟩ ⟨c, d⟩) g r R) w9) := HS9.out
  clear HBN HS9 HSD HS hc1 hm1 ho1 q1
  obtain ⟨w3, hw3⟩ : ∃ W, W = w9 := ⟨_, rfl⟩
  subst hw3
  go_upto_region 16 with fail
  try rw [show ∀ a : Act, a.put none undef = a from fun _ => rfl]
  have hDR : Below w3.heap.size w3 ({ w3 with drawn := w3.drawn + 1 } : World) := (Below.refl _ _).drew
  have HSD : Hid (AS own0 w0 (rowE L 56 6 v1 (enA x ⟨er, ek⟩ ⟨c, d⟩).length (flatA (enA x ⟨er, ek⟩ ⟨c, d⟩)) :: pES K hK s pb mb cb (enX x ⟨er, ek⟩ ⟨c, d⟩) g r R) ({ w3 with drawn := w3.drawn + 1 } : World)) := HSA.out.more hDR
  have HC0 : (fun wz : World => wz.cell? ⟨pb, 0, none⟩ = some (.pointer (some ⟨mb, 0, none⟩)) ∧ wz.cell? ⟨pb, 1, none⟩ = some (.pointer (some ⟨g.rb, 0, none⟩)) ∧ Blk wz p4 #[.int .i64 who, .int .i64 3, .int .i64 lim, .int .i64 rts, .int .i64 hld, .bool all, .bool true, .int .i64 frm, .int .i64 er, .int .i64 ek, .int .i64 c, .int .i64 d] 78) ({ w3 with drawn := w3.drawn + 1 } : World) := ⟨(pES.cl HSD.out.drop).1, (pES.cl HSD.out.drop).2, Blk.up (w := w3) HB4.out hDR⟩
  refine wp_region_mix (fun wz : World => wz.cell? ⟨pb, 0, none⟩ = some (.pointer (some ⟨mb, 0, none⟩)) ∧ wz.cell? ⟨pb, 1, none⟩ = some (.pointer (some ⟨g.rb, 0, none⟩)) ∧ Blk wz p4 #[.int .i64 who, .int .i64 3, .int .i64 lim, .int .i64 rts, .int .i64 hld, .bool all, .bool true, .int .i64 frm, .int .i64 er, .int .i64 ek, .int .i64 c, .int .i64 d] 78) (fun i => i == 8 || i == 9) 9 (by kernel_rfl) rfl (by kernel_rfl) (by kernel_rfl) (by kernel_rfl) ?_
  refine withFrP (N := 169) rfl ?_
  intro f0 F0 hff
  have ee0 : f0 0 = Value.pointer (some ⟨pb, 0, none⟩) := hff 0
  have ee4 : f0 4 = Value.pointer (some ⟨p4, 0, none⟩) := hff 4
  clear hff
  refine lyp F0 rfl HC0 rfl (by omega) (wanted_none rfl) (v := Value.pointer (some ⟨pb, 0, none⟩)) (fun wr hwr => by simp only [execOp, (F0.eval 0 (by omega)).trans (show _ = Value.pointer (some ⟨pb, 0, none⟩) from by simp [upd, ee0, ee4])]; first | rfl | simp [go_sem]) fun F1 => ?_
  refine lyp F1 rfl HC0 rfl (by omega) (wanted_none rfl) (v := Value.pointer (some ⟨pb, 0, none⟩)) (fun wr hwr => by simp only [execOp, (F1.eval 83 (by omega)).trans (show _ = Value.pointer (some ⟨pb, 0, none⟩) from by simp [upd, ee0, ee4])]; simp [go_sem]) fun F2 => ?_
  refine lyp F2 rfl HC0 rfl (by omega) (wanted_none rfl) (v := Value.pointer (some ⟨pb, 1, none⟩)) (fun wr hwr => by simp only [execOp, (F2.eval 84 (by omega)).trans (show _ = Value.pointer (some ⟨pb, 0, none⟩) from by simp [upd, ee0, ee4])]; simp [go_sem]) fun F3 => ?_
  refine lyp F3 rfl HC0 rfl (by omega) (wanted_none rfl) (v := Value.pointer (some ⟨g.rb, 0, none⟩)) (fun wr hwr => by simp only [execOp, (F3.eval 85 (by omega)).trans (show _ = Value.pointer (some ⟨pb, 1, none⟩) from by simp [upd, ee0, ee4])]; simp [go_sem, hwr.2.1]) fun F4 => ?_
  refine lyp F4 rfl HC0 rfl (by omega) (wanted_none rfl) (v := Value.pointer (some ⟨p4, 8, none⟩)) (fun wr hwr => by simp only [execOp, (F4.eval 4 (by omega)).trans (show _ = Value.pointer (some ⟨p4, 0, none⟩) from by simp [upd, ee0, ee4])]; simp [go_sem]) fun F5 => ?_
  refine lyp F5 rfl HC0 rfl (by omega) (wanted_none rfl) (v := Value.agg #[Value.int .i64 er, Value.int .i64 ek]) (fun wr hwr => by have h0 := hwr.2.2.cell 8; have h1 := hwr.2.2.cell 9; simp only [execOp, (F5.eval 87 (by omega)).trans (show _ = Value.pointer (some ⟨p4, 8, none⟩) from by simp [upd, ee0, ee4])]; simp [go_sem, h0, h1]) fun F6 => ?_
  refine lyp F6 rfl HC0 rfl (by omega) (wanted_none rfl) (v := Value.pointer (some ⟨p4, 10, none⟩)) (fun wr hwr => by simp only [execOp, (F6.eval 4 (by omega)).trans (show _ = Value.pointer (some ⟨p4, 0, none⟩) from by simp [upd, ee0, ee4])]; simp [go_sem]) fun F7 => ?_
  refine lyp F7 rfl HC0 rfl (by omega) (wanted_none rfl) (v := Value.agg #[Value.int .i64 c, Value.int .i64 d]) (fun wr hwr => by have h0 := hwr.2.2.cell 10; have h1 := hwr.2.2.cell 11; simp only [execOp, (F7.eval 89 (by omega)).trans (show _ = Value.pointer (some ⟨p4, 10, none⟩) from by simp [upd, ee0, ee4])]; simp [go_sem, h0, h1]) fun F8 => ?_
  refine lcp F8 rfl HC0 rfl (by omega) (wanted_none rfl) (g := 49) (args := #[Value.pointer (some ⟨g.rb, 0, none⟩), Value.agg #[Value.int .i64 er, Value.int .i64 ek], Value.agg #[Value.int .i64 c, Value.int .i64 d]]) (by simp only [execOp, resolve, invoke, List.map_toArray, List.map_cons, List.map_nil, (F8.eval 86 (by omega)).trans (show _ = Value.pointer (some ⟨g.rb, 0, none⟩) from by simp [upd, ee0, ee4]), (F8.eval 88 (by omega)).trans (show _ = Value.agg #[Value.int .i64 er, Value.int .i64 ek] from by simp [upd, ee0, ee4]), (F8.eval 90 (by omega)).trans (show _ = Value.agg #[Value.int .i64 c, Value.int .i64 d] from by simp [upd, ee0, ee4])]; simp [go_sem, Act.eval]) (rend_any ⟨er, ek⟩ ⟨c, d⟩ _ (pES.rm HSD.out.drop) HA.out HX.out (by have := HSZ.out; unfold RV.sz at this; omega)) ?_
  rintro e w9 ⟨v2, rfl, ho2, g5, hm5, hs5⟩
  have HRB : Hid (g5.rb = g.rb) := hs5.1
  have hch5 := hs5.2.1
  have HSR : Hid (AS own0 w0 (rowE L 56 6 v1 (enA x ⟨er, ek⟩ ⟨c, d⟩).length (flatA (enA x ⟨er, ek⟩ ⟨c, d⟩)) :: pES K hK s pb mb cb (enX x ⟨er, ek⟩ ⟨c, d⟩) g5 (enR x r ⟨er, ek⟩ ⟨c, d⟩) R) w9) := pES.ref (F := [rowE L 56 6 v1 (enA x ⟨er, ek⟩ ⟨c, d⟩).length (flatA (enA x ⟨er, ek⟩ ⟨c, d⟩))]) HSD.out hm5 hs5
  have HC9 : (fun wz : World => wz.cell? ⟨pb, 0, none⟩ = some (.pointer (some ⟨mb, 0, none⟩)) ∧ wz.cell? ⟨pb, 1, none⟩ = some (.pointer (some ⟨g.rb, 0, none⟩)) ∧ Blk wz p4 #[.int .i64 who, .int .i64 3, .int .i64 lim, .int .i64 rts, .int .i64 hld, .bool all, .bool true, .int .i64 frm, .int .i64 er, .int .i64 ek, .int .i64 c, .int .i64 d] 78) w9 := ⟨(pES.cl HSR.out.drop).1, by rw [← HRB.out]; exact (pES.cl HSR.out.drop).2, hch5.blk (Blk.up (w := w3) HB4.out hDR) HPR.out⟩
  have HO2 : Hid _ := ho2
  refine ⟨_, rfl, fun F9 => ?_⟩
  refine lep F9 rfl HC9 rfl (by omega) (wanted_none rfl) (v := v2) (w1 := w9) (by simp only [execOp, (F9.eval 91 (by omega)).trans (show _ = v2 from by simp [upd, ee0, ee4])]; first | rfl | simp [go_sem]) fun F10 => ?_
  refine ⟨fun h => by omega, ?_⟩
  clear F0 F1 F2 F3 F4 F5 F6 F7 F8 F9 F10 ee0 ee4 HC0 HC9 hDR
  simp only [Act.put, List.setIfInBounds_toArray, List.set_cons_succ, List.set_cons_zero]
  clear HSD hch5 hs5 ho2
  clear hm5
  go_wp2_with (first
    | (go_at_call 53; refine Calls.mono (same_any _ (show w9.ownsRow L 56 6 v1 _ _ from HSR.out.head) HO2.out) ?_; rintro e w6 ⟨rfl, hb6⟩; have HS6 : Hid _ := HSR.out.more hb6; clear hb6)
    | (go_at_call 54; refine Calls.mono (pES.putA HS6.out HLN.out (by have := HCN.out; omega)) ?_; rintro e w7 ⟨rfl, s7, hs7, hc7⟩; have HS7 : Hid _ := hs7; have HC7 : Hid _ := hc7; clear hs7 hc7)
    | (go_at_call 55; refine Calls.mono (looks_any w7 HS7.out HA2.out HX2.out (pES.lw HS7.out).1 (pES.lw HS7.out).2 (by have := HCN.out; have := HC7.out; omega)) ?_; rintro e w8 ⟨rfl, s8, hs8, hc8⟩; have HS8 : Hid _ := hs8; have HC8 : Hid _ := hc8; clear hs8 hc8)
    | fail)
  go_ret
  exact ⟨rfl, s8, _, HS8.out, by have := HC7.out; have := HC8.out; omega⟩
end Go.Proofs.Ytjojhhkbebddmaa
namespace Go.Proofs.Ytjojhhkbebddmaa
open Go.RowKit Go.PlainAid
set_option linter.unusedVariables false
set_option linter.unusedSimpArgs false
set_option maxRecDepth 100000 in
set_option maxHeartbeats 12800000 in
theorem pl_4_false {σ : Type} {L kb pb mb cb : Nat} {K : Keeper σ L kb} {hK : KFr K} {s : σ} {x : EV} {g : RG} {r : RV} {R : List (Ent L)} {own0 : Nat → Prop} {w0 : World} (who lim rts hld frm a b c d er ek : Int) (all : Bool) (w : World) (h : AS own0 w0 (pES K hK s pb mb cb x g r R) w) (ha : Agr x r) (hx : x.Nm) (hsz : r.sz ≤ 999999980) (hcnt : K.cnt s ≤ 999999999900) (hE : liveE x x.me = ⟨er, ek⟩) : Calls Try.prog 27 #[.pointer (some ⟨pb, 0, none⟩), .agg #[.int .i64 who, .int .i64 4, .int .i64 lim, .int .i64 rts, .int .i64 hld, .bool all, .bool false, .int .i64 frm, .int .i64 a, .int .i64 b, .int .i64 c, .int .i64 d], .pointer (some ⟨kb, 0, none⟩)] w fun e w' => e = .returned (.bool true) ∧ ∃ s' g', AS own0 w0 (pES K hK s' pb mb cb (repX x frm ⟨a, b⟩ hld) g' (repR x r frm ⟨a, b⟩ hld) R) w' ∧ K.cnt s' ≤ K.cnt s + 36 := by
  have HX : Hid _ := hx
  have HA : Hid _ := ha
  have HX2 : Hid (EV.Nm (repX x frm ⟨a, b⟩ hld)) := hx.repX frm ⟨a, b⟩ hld
  have HA2 : Hid (Agr (repX x frm ⟨a, b⟩ hld) (repR x r frm ⟨a, b⟩ hld)) := show Agr (repX x frm ⟨a, b⟩ hld) (repR x r frm ⟨a, b⟩ hld) from ha.rep frm ⟨a, b⟩ hld
  have HLN : Hid (([] : List Ac).length ≤ 1000000) := show ([] : List Ac).length ≤ 1000000 from Nat.le_trans (show ([] : List Ac).length ≤ 3 from Nat.zero_le _) (by decide)
  have HSZ : Hid _ := hsz
  have HCN : Hid _ := hcnt
  have HLB : Hid _ := ha.lastB
  obtain ⟨p4, hp4⟩ : ∃ p, p = w.heap.size := ⟨_, rfl⟩
  have HP4 : Hid (∀ k, has (pES K hK s pb mb cb x g r R) k → k < p4) := show ∀ k, has (pES K hK s pb mb cb x g r R) k → k < p4 from fun k hk => by rw [hp4]; exact (h.h.typ hk).2
  have HPM : Hid (¬ mown mb cb p4) := show ¬ mown mb cb p4 from fun e => by have := HP4.out p4 (by unfold pES; rw [has_cons, has_cons, has_cons]; exact .inr (.inr (.inl e))); omega
  have HPR : Hid (¬ rown g p4) := show ¬ rown g p4 from fun e => by have := HP4.out p4 (by unfold pES; rw [has_cons, has_cons, has_cons, has_cons]; exact .inr (.inr (.inr (.inl e)))); omega
  have hbW : Below w.heap.size w (w.alloc (.cells #[.int .i64 who, .int .i64 4, .int .i64 lim, .int .i64 rts, .int .i64 hld, .bool all, .bool false, .int .i64 frm, .int .i64 a, .int .i64 b, .int .i64 c, .int .i64 d] 78)) := (Below.refl _ _).alloc (Nat.le_refl _) _
  have HS0 : Hid (AS own0 w0 (pES K hK s pb mb cb x g r R) (w.alloc (.cells #[.int .i64 who, .int .i64 4, .int .i64 lim, .int .i64 rts, .int .i64 hld, .bool all, .bool false, .int .i64 frm, .int .i64 a, .int .i64 b, .int .i64 c, .int .i64 d] 78))) := h.more hbW
  have HB0 : Hid (Blk (w.alloc (.cells #[.int .i64 who, .int .i64 4, .int .i64 lim, .int .i64 rts, .int .i64 hld, .bool all, .bool false, .int .i64 frm, .int .i64 a, .int .i64 b, .int .i64 c, .int .i64 d] 78)) p4 #[.int .i64 who, .int .i64 4, .int .i64 lim, .int .i64 rts, .int .i64 hld, .bool all, .bool false, .int .i64 frm, .int .i64 a, .int .i64 b, .int .i64 c, .int .i64 d] 78) := show Blk _ _ _ _ from by rw [hp4]; exact heap_alloc_new w _
  have hlt4 : p4 < (w.alloc (.cells #[.int .i64 who, .int .i64 4, .int .i64 lim, .int .i64 rts, .int .i64 hld, .bool all, .bool false, .int .i64 frm, .int .i64 a, .int .i64 b, .int .i64 c, .int .i64 d] 78)).heap.size := HB0.out.lt
  clear h ha hx hsz hcnt hbW hE
  unfold epV at *
  go_enter Try.func27, Try.ntmps27
  go_upto_region 1 with fail
  try rw [← hp4]
  clear hp4
  generalize w.alloc (.cells #[.int .i64 who, .int .i64 4, .int .i64 lim, .int .i64 rts, .int .i64 hld, .bool all, .bool false, .int .i64 frm, .int .i64 a, .int .i64 b, .int .i64 c, .int .i64 d] 78) = W0 at *
  have hq6 : W0.cell? ⟨p4, 6, none⟩ = some (.bool false) := HB0.out.cell 6
  obtain ⟨c0, c1⟩ := pES.cl HS0.out
  go_upto_region 3 with fail
  have HB4 : Hid (Blk W0 p4 #[.int .i64 who, .int .i64 4, .int .i64 lim, .int .i64 rts, .int .i64 hld, .bool all, .bool false, .int .i64 frm, .int .i64 a, .int .i64 b, .int .i64 c, .int .i64 d] 78) := HB0.out
  have HS : Hid (AS own0 w0 (pES K hK s pb mb cb x g r R) W0) := HS0.out
  clear hq6 c0 c1
  have hWW : ∃ W, W = W0 := ⟨_, rfl⟩
  obtain ⟨W, hWW⟩ := hWW
  subst hWW
  have q1 : W.cell? ⟨p4, 1, none⟩ = some (.int .i64 4) := HB4.out.cell 1
  have hlt4W : p4 < W.heap.size := HB4.out.lt
  clear HS0 HB0 hlt4
  go_upto_region 18 with fail
  rename_i K1 hK1
  try rw [show ∀ a : Act, a.put none undef = a from fun _ => rfl]
  have hDR : Below W.heap.size W ({ W with drawn := W.drawn + 1 } : World) := (Below.refl _ _).drew
  have HSD : Hid (AS own0 w0 (pES K hK s pb mb cb x g r R) ({ W with drawn := W.drawn + 1 } : World)) := HS.out.more hDR
  have HC0 : (fun wz : World => wz.cell? ⟨pb, 0, none⟩ = some (.pointer (some ⟨mb, 0, none⟩)) ∧ wz.cell? ⟨pb, 1, none⟩ = some (.pointer (some ⟨g.rb, 0, none⟩)) ∧ Blk wz p4 #[.int .i64 who, .int .i64 4, .int .i64 lim, .int .i64 rts, .int .i64 hld, .bool all, .bool false, .int .i64 frm, .int .i64 a, .int .i64 b, .int .i64 c, .int .i64 d] 78) ({ W with drawn := W.drawn + 1 } : World) := ⟨(pES.cl HSD.out).1, (pES.cl HSD.out).2, Blk.up (w := W) HB4.out hDR⟩
  refine wp_region_mix (fun wz : World => wz.cell? ⟨pb, 0, none⟩ = some (.pointer (some ⟨mb, 0, none⟩)) ∧ wz.cell? ⟨pb, 1, none⟩ = some (.pointer (some ⟨g.rb, 0, none⟩)) ∧ Blk wz p4 #[.int .i64 who, .int .i64 4, .int .i64 lim, .int .i64 rts, .int .i64 hld, .bool all, .bool false, .int .i64 frm, .int .i64 a, .int .i64 b, .int .i64 c, .int .i64 d] 78) (fun i => i == 10 || i == 11) 11 (by kernel_rfl) rfl (by kernel_rfl) (by kernel_rfl) (by kernel_rfl) ?_
  refine withFrP (N := 169) rfl ?_
  intro f0 F0 hff
  have ee0 : f0 0 = Value.pointer (some ⟨pb, 0, none⟩) := hff 0
  have ee4 : f0 4 = Value.pointer (some ⟨p4, 0, none⟩) := hff 4
  clear hff
  refine lyp F0 rfl HC0 rfl (by omega) (wanted_none rfl) (v := Value.pointer (some ⟨pb, 0, none⟩)) (fun wr hwr => by simp only [execOp, (F0.eval 0 (by omega)).trans (show _ = Value.pointer (some ⟨pb, 0, none⟩) from by simp [upd, ee0, ee4])]; first | rfl | simp [go_sem]) fun F1 => ?_
  refine lyp F1 rfl HC0 rfl (by omega) (wanted_none rfl) (v := Value.pointer (some ⟨pb, 0, none⟩)) (fun wr hwr => by simp only [execOp, (F1.eval 94 (by omega)).trans (show _ = Value.pointer (some ⟨pb, 0, none⟩) from by simp [upd, ee0, ee4])]; simp [go_sem]) fun F2 => ?_
  refine lyp F2 rfl HC0 rfl (by omega) (wanted_none rfl) (v := Value.pointer (some ⟨pb, 0, none⟩)) (fun wr hwr => by simp only [execOp, (F2.eval 95 (by omega)).trans (show _ = Value.pointer (some ⟨pb, 0, none⟩) from by simp [upd, ee0, ee4])]; simp [go_sem]) fun F3 => ?_
  refine lyp F3 rfl HC0 rfl (by omega) (wanted_none rfl) (v := Value.pointer (some ⟨mb, 0, none⟩)) (fun wr hwr => by simp only [execOp, (F3.eval 96 (by omega)).trans (show _ = Value.pointer (some ⟨pb, 0, none⟩) from by simp [upd, ee0, ee4])]; simp [go_sem, hwr.1]) fun F4 => ?_
  refine lyp F4 rfl HC0 rfl (by omega) (wanted_none rfl) (v := Value.pointer (some ⟨p4, 7, none⟩)) (fun wr hwr => by simp only [execOp, (F4.eval 4 (by omega)).trans (show _ = Value.pointer (some ⟨p4, 0, none⟩) from by simp [upd, ee0, ee4])]; simp [go_sem]) fun F5 => ?_
  refine lyp F5 rfl HC0 rfl (by omega) (wanted_none rfl) (v := Value.int .i64 frm) (fun wr hwr => by simp only [execOp, (F5.eval 98 (by omega)).trans (show _ = Value.pointer (some ⟨p4, 7, none⟩) from by simp [upd, ee0, ee4])]; simp [go_sem, (hwr.2.2.cell 7)]) fun F6 => ?_
  refine lyp F6 rfl HC0 rfl (by omega) (wanted_none rfl) (v := Value.pointer (some ⟨p4, 8, none⟩)) (fun wr hwr => by simp only [execOp, (F6.eval 4 (by omega)).trans (show _ = Value.pointer (some ⟨p4, 0, none⟩) from by simp [upd, ee0, ee4])]; simp [go_sem]) fun F7 => ?_
  refine lyp F7 rfl HC0 rfl (by omega) (wanted_none rfl) (v := Value.agg #[Value.int .i64 a, Value.int .i64 b]) (fun wr hwr => by have h0 := hwr.2.2.cell 8; have h1 := hwr.2.2.cell 9; simp only [execOp, (F7.eval 100 (by omega)).trans (show _ = Value.pointer (some ⟨p4, 8, none⟩) from by simp [upd, ee0, ee4])]; simp [go_sem, h0, h1]) fun F8 => ?_
  refine lyp F8 rfl HC0 rfl (by omega) (wanted_none rfl) (v := Value.pointer (some ⟨p4, 4, none⟩)) (fun wr hwr => by simp only [execOp, (F8.eval 4 (by omega)).trans (show _ = Value.pointer (some ⟨p4, 0, none⟩) from by simp [upd, ee0, ee4])]; simp [go_sem]) fun F9 => ?_
  refine lyp F9 rfl HC0 rfl (by omega) (wanted_none rfl) (v := Value.int .i64 hld) (fun wr hwr => by simp only [execOp, (F9.eval 102 (by omega)).trans (show _ = Value.pointer (some ⟨p4, 4, none⟩) from by simp [upd, ee0, ee4])]; simp [go_sem, (hwr.2.2.cell 4)]) fun F10 => ?_
  refine lcp F10 rfl HC0 rfl (by omega) (wanted_none rfl) (g := 38) (args := #[Value.pointer (some ⟨mb, 0, none⟩), Value.int .i64 frm, Value.agg #[Value.int .i64 a, Value.int .i64 b], Value.int .i64 hld]) (by simp only [execOp, resolve, invoke, List.map_toArray, List.map_cons, List.map_nil, (F10.eval 97 (by omega)).trans (show _ = Value.pointer (some ⟨mb, 0, none⟩) from by simp [upd, ee0, ee4]), (F10.eval 99 (by omega)).trans (show _ = Value.int .i64 frm from by simp [upd, ee0, ee4]), (F10.eval 101 (by omega)).trans (show _ = Value.agg #[Value.int .i64 a, Value.int .i64 b] from by simp [upd, ee0, ee4]), (F10.eval 103 (by omega)).trans (show _ = Value.int .i64 hld from by simp [upd, ee0, ee4])]; simp [go_sem, Act.eval]) (report_any frm ⟨a, b⟩ hld _ (pES.mm HSD.out) HX.out) ?_
  rintro e w9 ⟨rfl, hm1, hc1⟩
  have HS9 : Hid (AS own0 w0 (rowE L 56 6 (Value.slice none 0 0) ([] : List Ac).length (flatA ([] : List Ac)) :: pES K hK s pb mb cb (repX x frm ⟨a, b⟩ hld) g r R) w9) := pES.step (v := .slice none 0 0) (al := []) HSD.out (World.ownsRow_nil _ _ _ _) hm1 hc1
  have HC9 : (fun wz : World => wz.cell? ⟨pb, 0, none⟩ = some (.pointer (some ⟨mb, 0, none⟩)) ∧ wz.cell? ⟨pb, 1, none⟩ = some (.pointer (some ⟨g.rb, 0, none⟩)) ∧ Blk wz p4 #[.int .i64 who, .int .i64 4, .int .i64 lim, .int .i64 rts, .int .i64 hld, .bool all, .bool false, .int .i64 frm, .int .i64 a, .int .i64 b, .int .i64 c, .int .i64 d] 78) w9 := ⟨(pES.cl HS9.out.drop).1, (pES.cl HS9.out.drop).2, hc1.blk (Blk.up (w := W) HB4.out hDR) HPM.out⟩
  have HBN : Hid (Blk w9 p4 #[.int .i64 who, .int .i64 4, .int .i64 lim, .int .i64 rts, .int .i64 hld, .bool all, .bool false, .int .i64 frm, .int .i64 a, .int .i64 b, .int .i64 c, .int .i64 d] 78) := HC9.2.2
  refine ⟨_, rfl, fun F11 => ?_⟩
  refine lep F11 rfl HC9 rfl (by omega) (wanted_none rfl) (v := Value.slice none 0 0) (w1 := w9) (by simp only [execOp, (F11.eval 104 (by omega)).trans (show _ = Value.slice none 0 0 from by simp [upd, ee0, ee4])]; first | rfl | simp [go_sem]) fun F12 => ?_
  refine ⟨fun h => by omega, ?_⟩
  refine hK1 _ _ ?_
  clear F0 F1 F2 F3 F4 F5 F6 F7 F8 F9 F10 F11 F12 ee0 ee4 HC0 HC9 hDR
  simp only [Act.put, List.setIfInBounds_toArray, List.set_cons_succ, List.set_cons_zero]
  have HB4 : Hid (Blk w9 p4 #[.int .i64 who, .int .i64 4, .int .i64 lim, .int .i64 rts, .int .i64 hld, .bool all, .bool false, .int .i64 frm, .int .i64 a, .int .i64 b, .int .i64 c, .int .i64 d] 78) := HBN.out
  have hltw : p4 < w9.heap.size := HB4.out.lt
  have HSA : Hid (AS own0 w0 (rowE L 56 6 (Value.slice none 0 0) ([] : List Ac).length (flatA ([] : List Ac)) :: pES K hK s pb mb cb (repX x frm ⟨a, b⟩ hld) g r R) w9) := HS9.out
  clear HBN HS9 HSD HS hc1 hm1 q1
  obtain ⟨w3, hw3⟩ : ∃ W, W = w9 := ⟨_, rfl⟩
  subst hw3
  go_upto_region 19 with fail
  try rw [show ∀ a : Act, a.put none undef = a from fun _ => rfl]
  have hDR : Below w3.heap.size w3 ({ w3 with drawn := w3.drawn + 1 } : World) := (Below.refl _ _).drew
  have HSD : Hid (AS own0 w0 (rowE L 56 6 (Value.slice none 0 0) ([] : List Ac).length (flatA ([] : List Ac)) :: pES K hK s pb mb cb (repX x frm ⟨a, b⟩ hld) g r R) ({ w3 with drawn := w3.drawn + 1 } : World)) := HSA.out.more hDR
  have HC0 : (fun wz : World => wz.cell? ⟨pb, 0, none⟩ = some (.pointer (some ⟨mb, 0, none⟩)) ∧ wz.cell? ⟨pb, 1, none⟩ = some (.pointer (some ⟨g.rb, 0, none⟩)) ∧ Blk wz p4 #[.int .i64 who, .int .i64 4, .int .i64 lim, .int .i64 rts, .int .i64 hld, .bool all, .bool false, .int .i64 frm, .int .i64 a, .int .i64 b, .int .i64 c, .int .i64 d] 78) ({ w3 with drawn := w3.drawn + 1 } : World) := ⟨(pES.cl HSD.out.drop).1, (pES.cl HSD.out.drop).2, Blk.up (w := w3) HB4.out hDR⟩
  refine wp_region_mix (fun wz : World => wz.cell? ⟨pb, 0, none⟩ = some (.pointer (some ⟨mb, 0, none⟩)) ∧ wz.cell? ⟨pb, 1, none⟩ = some (.pointer (some ⟨g.rb, 0, none⟩)) ∧ Blk wz p4 #[.int .i64 who, .int .i64 4, .int .i64 lim, .int .i64 rts, .int .i64 hld, .bool all, .bool false, .int .i64 frm, .int .i64 a, .int .i64 b, .int .i64 c, .int .i64 d] 78) (fun i => i == 10) 10 (by kernel_rfl) rfl (by kernel_rfl) (by kernel_rfl) (by kernel_rfl) ?_
  refine withFrP (N := 169) rfl ?_
  intro f0 F0 hff
  have ee0 : f0 0 = Value.pointer (some ⟨pb, 0, none⟩) := hff 0
  have ee4 : f0 4 = Value.pointer (some ⟨p4, 0, none⟩) := hff 4
  clear hff
  refine lyp F0 rfl HC0 rfl (by omega) (wanted_none rfl) (v := Value.pointer (some ⟨pb, 0, none⟩)) (fun wr hwr => by simp only [execOp, (F0.eval 0 (by omega)).trans (show _ = Value.pointer (some ⟨pb, 0, none⟩) from by simp [upd, ee0, ee4])]; first | rfl | simp [go_sem]) fun F1 => ?_
  refine lyp F1 rfl HC0 rfl (by omega) (wanted_none rfl) (v := Value.pointer (some ⟨pb, 0, none⟩)) (fun wr hwr => by simp only [execOp, (F1.eval 105 (by omega)).trans (show _ = Value.pointer (some ⟨pb, 0, none⟩) from by simp [upd, ee0, ee4])]; simp [go_sem]) fun F2 => ?_
  refine lyp F2 rfl HC0 rfl (by omega) (wanted_none rfl) (v := Value.pointer (some ⟨pb, 1, none⟩)) (fun wr hwr => by simp only [execOp, (F2.eval 106 (by omega)).trans (show _ = Value.pointer (some ⟨pb, 0, none⟩) from by simp [upd, ee0, ee4])]; simp [go_sem]) fun F3 => ?_
  refine lyp F3 rfl HC0 rfl (by omega) (wanted_none rfl) (v := Value.pointer (some ⟨g.rb, 0, none⟩)) (fun wr hwr => by simp only [execOp, (F3.eval 107 (by omega)).trans (show _ = Value.pointer (some ⟨pb, 1, none⟩) from by simp [upd, ee0, ee4])]; simp [go_sem, hwr.2.1]) fun F4 => ?_
  refine lyp F4 rfl HC0 rfl (by omega) (wanted_none rfl) (v := Value.pointer (some ⟨p4, 7, none⟩)) (fun wr hwr => by simp only [execOp, (F4.eval 4 (by omega)).trans (show _ = Value.pointer (some ⟨p4, 0, none⟩) from by simp [upd, ee0, ee4])]; simp [go_sem]) fun F5 => ?_
  refine lyp F5 rfl HC0 rfl (by omega) (wanted_none rfl) (v := Value.int .i64 frm) (fun wr hwr => by simp only [execOp, (F5.eval 109 (by omega)).trans (show _ = Value.pointer (some ⟨p4, 7, none⟩) from by simp [upd, ee0, ee4])]; simp [go_sem, (hwr.2.2.cell 7)]) fun F6 => ?_
  refine lyp F6 rfl HC0 rfl (by omega) (wanted_none rfl) (v := Value.pointer (some ⟨p4, 8, none⟩)) (fun wr hwr => by simp only [execOp, (F6.eval 4 (by omega)).trans (show _ = Value.pointer (some ⟨p4, 0, none⟩) from by simp [upd, ee0, ee4])]; simp [go_sem]) fun F7 => ?_
  refine lyp F7 rfl HC0 rfl (by omega) (wanted_none rfl) (v := Value.agg #[Value.int .i64 a, Value.int .i64 b]) (fun wr hwr => by have h0 := hwr.2.2.cell 8; have h1 := hwr.2.2.cell 9; simp only [execOp, (F7.eval 111 (by omega)).trans (show _ = Value.pointer (some ⟨p4, 8, none⟩) from by simp [upd, ee0, ee4])]; simp [go_sem, h0, h1]) fun F8 => ?_
  refine lyp F8 rfl HC0 rfl (by omega) (wanted_none rfl) (v := Value.pointer (some ⟨p4, 4, none⟩)) (fun wr hwr => by simp only [execOp, (F8.eval 4 (by omega)).trans (show _ = Value.pointer (some ⟨p4, 0, none⟩) from by simp [upd, ee0, ee4])]; simp [go_sem]) fun F9 => ?_
  refine lyp F9 rfl HC0 rfl (by omega) (wanted_none rfl) (v := Value.int .i64 hld) (fun wr hwr => by simp only [execOp, (F9.eval 113 (by omega)).trans (show _ = Value.pointer (some ⟨p4, 4, none⟩) from by simp [upd, ee0, ee4])]; simp [go_sem, (hwr.2.2.cell 4)]) fun F10 => ?_
  refine lcp F10 rfl HC0 rfl (by omega) (wanted_none rfl) (g := 50) (args := #[Value.pointer (some ⟨g.rb, 0, none⟩), Value.int .i64 frm, Value.agg #[Value.int .i64 a, Value.int .i64 b], Value.int .i64 hld]) (by simp only [execOp, resolve, invoke, List.map_toArray, List.map_cons, List.map_nil, (F10.eval 108 (by omega)).trans (show _ = Value.pointer (some ⟨g.rb, 0, none⟩) from by simp [upd, ee0, ee4]), (F10.eval 110 (by omega)).trans (show _ = Value.int .i64 frm from by simp [upd, ee0, ee4]), (F10.eval 112 (by omega)).trans (show _ = Value.agg #[Value.int .i64 a, Value.int .i64 b] from by simp [upd, ee0, ee4]), (F10.eval 114 (by omega)).trans (show _ = Value.int .i64 hld from by simp [upd, ee0, ee4])]; simp [go_sem, Act.eval]) (rrep_any frm ⟨a, b⟩ hld _ (pES.rm HSD.out.drop) HA.out HX.out (by have := HSZ.out; unfold RV.sz at this; omega)) ?_
  rintro e w9 ⟨rfl, g5, hm5, hs5⟩
  have HRB : Hid (g5.rb = g.rb) := hs5.1
  have hch5 := hs5.2.1
  have HSR : Hid (AS own0 w0 (rowE L 56 6 (Value.slice none 0 0) ([] : List Ac).length (flatA ([] : List Ac)) :: pES K hK s pb mb cb (repX x frm ⟨a, b⟩ hld) g5 (repR x r frm ⟨a, b⟩ hld) R) w9) := pES.ref (F := [rowE L 56 6 (Value.slice none 0 0) ([] : List Ac).length (flatA ([] : List Ac))]) HSD.out hm5 hs5
  have HC9 : (fun wz : World => wz.cell? ⟨pb, 0, none⟩ = some (.pointer (some ⟨mb, 0, none⟩)) ∧ wz.cell? ⟨pb, 1, none⟩ = some (.pointer (some ⟨g.rb, 0, none⟩)) ∧ Blk wz p4 #[.int .i64 who, .int .i64 4, .int .i64 lim, .int .i64 rts, .int .i64 hld, .bool all, .bool false, .int .i64 frm, .int .i64 a, .int .i64 b, .int .i64 c, .int .i64 d] 78) w9 := ⟨(pES.cl HSR.out.drop).1, by rw [← HRB.out]; exact (pES.cl HSR.out.drop).2, hch5.blk (Blk.up (w := w3) HB4.out hDR) HPR.out⟩
  have HO2 : Hid (w9.ownsRow 0 117 6 (.slice none 0 0) ([] : List Ac).length (flatA [])) := World.ownsRow_nil _ _ _ _
  refine ⟨_, rfl, fun F11 => ?_⟩
  refine ⟨fun h => by omega, ?_⟩
  clear F0 F1 F2 F3 F4 F5 F6 F7 F8 F9 F10 F11 ee0 ee4 HC0 HC9 hDR
  simp only [Act.put, List.setIfInBounds_toArray, List.set_cons_succ, List.set_cons_zero]
  clear HSD hch5 hs5
  clear hm5
  go_wp2_with (first
    | (go_at_call 53; refine Calls.mono (same_any _ (show w9.ownsRow L 56 6 (.slice none 0 0) _ _ from HSR.out.head) HO2.out) ?_; rintro e w6 ⟨rfl, hb6⟩; have HS6 : Hid _ := HSR.out.more hb6; clear hb6)
    | (go_at_call 54; refine Calls.mono (pES.putA HS6.out HLN.out (by have := HCN.out; omega)) ?_; rintro e w7 ⟨rfl, s7, hs7, hc7⟩; have HS7 : Hid _ := hs7; have HC7 : Hid _ := hc7; clear hs7 hc7)
    | (go_at_call 55; refine Calls.mono (looks_any w7 HS7.out HA2.out HX2.out (pES.lw HS7.out).1 (pES.lw HS7.out).2 (by have := HCN.out; have := HC7.out; omega)) ?_; rintro e w8 ⟨rfl, s8, hs8, hc8⟩; have HS8 : Hid _ := hs8; have HC8 : Hid _ := hc8; clear hs8 hc8)
    | fail)
  go_ret
  exact ⟨rfl, s8, _, HS8.out, by have := HC7.out; have := HC8.out; omega⟩
set_option maxRecDepth 100000 in
set_option maxHeartbeats 12800000 in
theorem pl_4_true {σ : Type} {L kb pb mb cb : Nat} {K : Keeper σ L kb} {hK : KFr K} {s : σ} {x : EV} {g : RG} {r : RV} {R : List (Ent L)} {own0 : Nat → Prop} {w0 : World} (who lim rts hld frm a b c d er ek : Int) (all : Bool) (w : World) (h : AS own0 w0 (pES K hK s pb mb cb x g r R) w) (ha : Agr x r) (hx : x.Nm) (hsz : r.sz ≤ 999999980) (hcnt : K.cnt s ≤ 999999999900) (hE : liveE x x.me = ⟨er, ek⟩) : Calls Try.prog 27 #[.pointer (some ⟨pb, 0, none⟩), .agg #[.int .i64 who, .int .i64 4, .int .i64 lim, .int .i64 rts, .int .i64 hld, .bool all, .bool true, .int .i64 frm, .int .i64 a, .int .i64 b, .int .i64 c, .int .i64 d], .pointer (some ⟨kb, 0, none⟩)] w fun e w' => e = .returned (.bool true) ∧ ∃ s' g', AS own0 w0 (pES K hK s' pb mb cb (repX x frm ⟨er, ek⟩ hld) g' (repR x r frm ⟨er, ek⟩ hld) R) w' ∧ K.cnt s' ≤ K.cnt s + 36 := by
  have HX : Hid _ := hx
  have HA : Hid _ := ha
  have HX2 : Hid (EV.Nm (repX x frm ⟨er, ek⟩ hld)) := hx.repX frm ⟨er, ek⟩ hld
  have HA2 : Hid (Agr (repX x frm ⟨er, ek⟩ hld) (repR x r frm ⟨er, ek⟩ hld)) := show Agr (repX x frm ⟨er, ek⟩ hld) (repR x r frm ⟨er, ek⟩ hld) from ha.rep frm ⟨er, ek⟩ hld
  have HLN : Hid (([] : List Ac).length ≤ 1000000) := show ([] : List Ac).length ≤ 1000000 from Nat.le_trans (show ([] : List Ac).length ≤ 3 from Nat.zero_le _) (by decide)
  have HSZ : Hid _ := hsz
  have HCN : Hid _ := hcnt
  have HLB : Hid _ := ha.lastB
  obtain ⟨p4, hp4⟩ : ∃ p, p = w.heap.size := ⟨_, rfl⟩
  have HP4 : Hid (∀ k, has (pES K hK s pb mb cb x g r R) k → k < p4) := show ∀ k, has (pES K hK s pb mb cb x g r R) k → k < p4 from fun k hk => by rw [hp4]; exact (h.h.typ hk).2
  have HPM : Hid (¬ mown mb cb p4) := show ¬ mown mb cb p4 from fun e => by have := HP4.out p4 (by unfold pES; rw [has_cons, has_cons, has_cons]; exact .inr (.inr (.inl e))); omega
  have HPR : Hid (¬ rown g p4) := show ¬ rown g p4 from fun e => by have := HP4.out p4 (by unfold pES; rw [has_cons, has_cons, has_cons, has_cons]; exact .inr (.inr (.inr (.inl e)))); omega
  have hbW : Below w.heap.size w (w.alloc (.cells #[.int .i64 who, .int .i64 4, .int .i64 lim, .int .i64 rts, .int .i64 hld, .bool all, .bool true, .int .i64 frm, .int .i64 a, .int .i64 b, .int .i64 c, .int .i64 d] 78)) := (Below.refl _ _).alloc (Nat.le_refl _) _
  have HS0 : Hid (AS own0 w0 (pES K hK s pb mb cb x g r R) (w.alloc (.cells #[.int .i64 who, .int .i64 4, .int .i64 lim, .int .i64 rts, .int .i64 hld, .bool all, .bool true, .int .i64 frm, .int .i64 a, .int .i64 b, .int .i64 c, .int .i64 d] 78))) := h.more hbW
  have HB0 : Hid (Blk (w.alloc (.cells #[.int .i64 who, .int .i64 4, .int .i64 lim, .int .i64 rts, .int .i64 hld, .bool all, .bool true, .int .i64 frm, .int .i64 a, .int .i64 b, .int .i64 c, .int .i64 d] 78)) p4 #[.int .i64 who, .int .i64 4, .int .i64 lim, .int .i64 rts, .int .i64 hld, .bool all, .bool true, .int .i64 frm, .int .i64 a, .int .i64 b, .int .i64 c, .int .i64 d] 78) := show Blk _ _ _ _ from by rw [hp4]; exact heap_alloc_new w _
  have hlt4 : p4 < (w.alloc (.cells #[.int .i64 who, .int .i64 4, .int .i64 lim, .int .i64 rts, .int .i64 hld, .bool all, .bool true, .int .i64 frm, .int .i64 a, .int .i64 b, .int .i64 c, .int .i64 d] 78)).heap.size := HB0.out.lt
  have HOW : Hid (∀ W, AS own0 w0 (pES K hK s pb mb cb x g r R) W → Calls Try.prog 46 #[.pointer (some ⟨g.rb, 0, none⟩)] W fun e w' => e = .returned (epV ⟨er, ek⟩) ∧ Below W.heap.size W w') := fun W hW => by rw [← hE]; exact rown_any W (pES.rm hW) ha hx
  have HW0 : Hid (w0.heap.size ≤ p4) := show w0.heap.size ≤ p4 from by rw [hp4]; exact h.chg.size
  clear h ha hx hsz hcnt hbW hE
  unfold epV at *
  go_enter Try.func27, Try.ntmps27
  go_upto_region 1 with fail
  try rw [← hp4]
  clear hp4
  generalize w.alloc (.cells #[.int .i64 who, .int .i64 4, .int .i64 lim, .int .i64 rts, .int .i64 hld, .bool all, .bool true, .int .i64 frm, .int .i64 a, .int .i64 b, .int .i64 c, .int .i64 d] 78) = W0 at *
  have hq6 : W0.cell? ⟨p4, 6, none⟩ = some (.bool true) := HB0.out.cell 6
  obtain ⟨c0, c1⟩ := pES.cl HS0.out
  go_upto_region 3 with (first
    | (go_at_call 46; refine Calls.mono (HOW.out _ HS0.out) ?_; rintro e w1 ⟨rfl, hb1⟩; have hB1 := Blk.up (w := W0) HB0.out hb1; have s8 := hB1.cell 8; have s9 := hB1.cell 9; have f8 := hB1.frozen 8; have f9 := hB1.frozen 9; clear hB1)
    | fail)
  have hc1 : Chg (fun k => k = p4) w1 ((w1.setCell ⟨p4, 8, none⟩ (.int .i64 er)).setCell ⟨p4, 9, none⟩ (.int .i64 ek)) := (setCell_chg _ _ _ _).trans (setCell_chg _ _ _ _) (fun _ _ e => e)
  have HB4 : Hid (Blk ((w1.setCell ⟨p4, 8, none⟩ (.int .i64 er)).setCell ⟨p4, 9, none⟩ (.int .i64 ek)) p4 #[.int .i64 who, .int .i64 4, .int .i64 lim, .int .i64 rts, .int .i64 hld, .bool all, .bool true, .int .i64 frm, .int .i64 er, .int .i64 ek, .int .i64 c, .int .i64 d] 78) := show Blk _ _ _ _ from ((Blk.up (w := W0) HB0.out hb1).set 8 _).set 9 _
  have HS : Hid (AS own0 w0 (pES K hK s pb mb cb x g r R) ((w1.setCell ⟨p4, 8, none⟩ (.int .i64 er)).setCell ⟨p4, 9, none⟩ (.int .i64 ek))) := show AS _ _ _ _ from by
    have h1 := HS0.out.more hb1
    exact ⟨h1.h.chg hc1 (fun k hk e => by have := HP4.out k hk; omega), h1.chg.trans hc1 (fun k hk e => by
      have h2 := HW0.out; omega), h1.new⟩
  generalize (w1.setCell ⟨p4, 8, none⟩ (.int .i64 er)).setCell ⟨p4, 9, none⟩ (.int .i64 ek) = W at *
  clear hc1 hb1 s8 s9 f8 f9 hq6 c0 c1 HOW
  have q1 : W.cell? ⟨p4, 1, none⟩ = some (.int .i64 4) := HB4.out.cell 1
  have hlt4W : p4 < W.heap.size := HB4.out.lt
  clear HS0 HB0 hlt4
  go_upto_region 18 with fail
  rename_i K1 hK1
  try rw [show ∀ a : Act, a.put none undef = a from fun _ => rfl]
  have hDR : Below W.heap.size W ({ W with drawn := W.drawn + 1 } : World) := (Below.refl _ _).drew
  have HSD : Hid (AS own0 w0 (pES K hK s pb mb cb x g r R) ({ W with drawn := W.drawn + 1 } : World)) := HS.out.more hDR
  have HC0 : (fun wz : World => wz.cell? ⟨pb, 0, none⟩ = some (.pointer (some ⟨mb, 0, none⟩)) ∧ wz.cell? ⟨pb, 1, none⟩ = some (.pointer (some ⟨g.rb, 0, none⟩)) ∧ Blk wz p4 #[.int .i64 who, .int .i64 4, .int .i64 lim, .int .i64 rts, .int .i64 hld, .bool all, .bool true, .int .i64 frm, .int .i64 er, .int .i64 ek, .int .i64 c, .int .i64 d] 78) ({ W with drawn := W.drawn + 1 } : World) := ⟨(pES.cl HSD.out).1, (pES.cl HSD.out).2, Blk.up (w := W) HB4.out hDR⟩
  refine wp_region_mix (fun wz : World => wz.cell? ⟨pb, 0, none⟩ = some (.pointer (some ⟨mb, 0, none⟩)) ∧ wz.cell? ⟨pb, 1, none⟩ = some (.pointer (some ⟨g.rb, 0, none⟩)) ∧ Blk wz p4 #[.int .i64 who, .int .i64 4, .int .i64 lim, .int .i64 rts, .int .i64 hld, .bool all, .bool true, .int .i64 frm, .int .i64 er, .int .i64 ek, .int .i64 c, .int .i64 d] 78) (fun i => i == 10 || i == 11) 11 (by kernel_rfl) rfl (by kernel_rfl) (by kernel_rfl) (by kernel_rfl) ?_
  refine withFrP (N := 169) rfl ?_
  intro f0 F0 hff
  have ee0 : f0 0 = Value.pointer (some ⟨pb, 0, none⟩) := hff 0
  have ee4 : f0 4 = Value.pointer (some ⟨p4, 0, none⟩) := hff 4
  clear hff
  refine lyp F0 rfl HC0 rfl (by omega) (wanted_none rfl) (v := Value.pointer (some ⟨pb, 0, none⟩)) (fun wr hwr => by simp only [execOp, (F0.eval 0 (by omega)).trans (show _ = Value.pointer (some ⟨pb, 0, none⟩) from by simp [upd, ee0, ee4])]; first | rfl | simp [go_sem]) fun F1 => ?_
  refine lyp F1 rfl HC0 rfl (by omega) (wanted_none rfl) (v := Value.pointer (some ⟨pb, 0, none⟩)) (fun wr hwr => by simp only [execOp, (F1.eval 94 (by omega)).trans (show _ = Value.pointer (some ⟨pb, 0, none⟩) from by simp [upd, ee0, ee4])]; simp [go_sem]) fun F2 => ?_
  refine lyp F2 rfl HC0 rfl (by omega) (wanted_none rfl) (v := Value.pointer (some ⟨pb, 0, none⟩)) (fun wr hwr => by simp only [execOp, (F2.eval 95 (by omega)).trans (show _ = Value.pointer (some ⟨pb, 0, none⟩) from by simp [upd, ee0, ee4])]; simp [go_sem]) fun F3 => ?_
  refine lyp F3 rfl HC0 rfl (by omega) (wanted_none rfl) (v := Value.pointer (some ⟨mb, 0, none⟩)) (fun wr hwr => by simp only [execOp, (F3.eval 96 (by omega)).trans (show _ = Value.pointer (some ⟨pb, 0, none⟩) from by simp [upd, ee0, ee4])]; simp [go_sem, hwr.1]) fun F4 => ?_
  refine lyp F4 rfl HC0 rfl (by omega) (wanted_none rfl) (v := Value.pointer (some ⟨p4, 7, none⟩)) (fun wr hwr => by simp only [execOp, (F4.eval 4 (by omega)).trans (show _ = Value.pointer (some ⟨p4, 0, none⟩) from by simp [upd, ee0, ee4])]; simp [go_sem]) fun F5 => ?_
  refine lyp F5 rfl HC0 rfl (by omega) (wanted_none rfl) (v := Value.int .i64 frm) (fun wr hwr => by simp only [execOp, (F5.eval 98 (by omega)).trans (show _ = Value.pointer (some ⟨p4, 7, none⟩) from by simp [upd, ee0, ee4])]; simp [go_sem, (hwr.2.2.cell 7)]) fun F6 => ?_
  refine lyp F6 rfl HC0 rfl (by omega) (wanted_none rfl) (v := Value.pointer (some ⟨p4, 8, none⟩)) (fun wr hwr => by simp only [execOp, (F6.eval 4 (by omega)).trans (show _ = Value.pointer (some ⟨p4, 0, none⟩) from by simp [upd, ee0, ee4])]; simp [go_sem]) fun F7 => ?_
  refine lyp F7 rfl HC0 rfl (by omega) (wanted_none rfl) (v := Value.agg #[Value.int .i64 er, Value.int .i64 ek]) (fun wr hwr => by have h0 := hwr.2.2.cell 8; have h1 := hwr.2.2.cell 9; simp only [execOp, (F7.eval 100 (by omega)).trans (show _ = Value.pointer (some ⟨p4, 8, none⟩) from by simp [upd, ee0, ee4])]; simp [go_sem, h0, h1]) fun F8 => ?_
  refine lyp F8 rfl HC0 rfl (by omega) (wanted_none rfl) (v := Value.pointer (some ⟨p4, 4, none⟩)) (fun wr hwr => by simp only [execOp, (F8.eval 4 (by omega)).trans (show _ = Value.pointer (some ⟨p4, 0, none⟩) from by simp [upd, ee0, ee4])]; simp [go_sem]) fun F9 => ?_
  refine lyp F9 rfl HC0 rfl (by omega) (wanted_none rfl) (v := Value.int .i64 hld) (fun wr hwr => by simp only [execOp, (F9.eval 102 (by omega)).trans (show _ = Value.pointer (some ⟨p4, 4, none⟩) from by simp [upd, ee0, ee4])]; simp [go_sem, (hwr.2.2.cell 4)]) fun F10 => ?_
  refine lcp F10 rfl HC0 rfl (by omega) (wanted_none rfl) (g := 38) (args := #[Value.pointer (some ⟨mb, 0, none⟩), Value.int .i64 frm, Value.agg #[Value.int .i64 er, Value.int .i64 ek], Value.int .i64 hld]) (by simp only [execOp, resolve, invoke, List.map_toArray, List.map_cons, List.map_nil, (F10.eval 97 (by omega)).trans (show _ = Value.pointer (some ⟨mb, 0, none⟩) from by simp [upd, ee0, ee4]), (F10.eval 99 (by omega)).trans (show _ = Value.int .i64 frm from by simp [upd, ee0, ee4]), (F10.eval 101 (by omega)).trans (show _ = Value.agg #[Value.int .i64 er, Value.int .i64 ek] from by simp [upd, ee0, ee4]), (F10.eval 103 (by omega)).trans (show _ = Value.int .i64 hld from by simp [upd, ee0, ee4])]; simp [go_sem, Act.eval]) (report_any frm ⟨er, ek⟩ hld _ (pES.mm HSD.out) HX.out) ?_
  rintro e w9 ⟨rfl, hm1, hc1⟩
  have HS9 : Hid (AS own0 w0 (rowE L 56 6 (Value.slice none 0 0) ([] : List Ac).length (flatA ([] : List Ac)) :: pES K hK s pb mb cb (repX x frm ⟨er, ek⟩ hld) g r R) w9) := pES.step (v := .slice none 0 0) (al := []) HSD.out (World.ownsRow_nil _ _ _ _) hm1 hc1
  have HC9 : (fun wz : World => wz.cell? ⟨pb, 0, none⟩ = some (.pointer (some ⟨mb, 0, none⟩)) ∧ wz.cell? ⟨pb, 1, none⟩ = some (.pointer (some ⟨g.rb, 0, none⟩)) ∧ Blk wz p4 #[.int .i64 who, .int .i64 4, .int .i64 lim, .int .i64 rts, .int .i64 hld, .bool all, .bool true, .int .i64 frm, .int .i64 er, .int .i64 ek, .int .i64 c, .int .i64 d] 78) w9 := ⟨(pES.cl HS9.out.drop).1, (pES.cl HS9.out.drop).2, hc1.blk (Blk.up (w := W) HB4.out hDR) HPM.out⟩
  have HBN : Hid (Blk w9 p4 #[.int .i64 who, .int .i64 4, .int .i64 lim, .int .i64 rts, .int .i64 hld, .bool all, .bool true, .int .i64 frm, .int .i64 er, .int .i64 ek, .int .i64 c, .int .i64 d] 78) := HC9.2.2
  refine ⟨_, rfl, fun F11 => ?_⟩
  refine lep F11 rfl HC9 rfl (by omega) (wanted_none rfl) (v := Value.slice none 0 0) (w1 := w9) (by simp only [execOp, (F11.eval 104 (by omega)).trans (show _ = Value.slice none 0 0 from by simp [upd, ee0, ee4])]; first | rfl | simp [go_sem]) fun F12 => ?_
  refine ⟨fun h => by omega, ?_⟩
  refine hK1 _ _ ?_
  clear F0 F1 F2 F3 F4 F5 F6 F7 F8 F9 F10 F11 F12 ee0 ee4 HC0 HC9 hDR
  simp only [Act.put, List.setIfInBounds_toArray, List.set_cons_succ, List.set_cons_zero]
  have HB4 : Hid (Blk w9 p4 #[.int .i64 who, .int .i64 4, .int .i64 lim, .int .i64 rts, .int .i64 hld, .bool all, .bool true, .int .i64 frm, .int .i64 er, .int .i64 ek, .int .i64 c, .int .i64 d] 78) := HBN.out
  have hltw : p4 < w9.heap.size := HB4.out.lt
  have HSA : Hid (AS own0 w0 (rowE L 56 6 (Value.slice none 0 0) ([] : List Ac).length (flatA ([] : List Ac)) :: pES K hK s pb mb cb (repX x frm ⟨er, ek⟩ hld) g r R) w9) := HS9.out
  clear HBN HS9 HSD HS hc1 hm1 q1
  obtain ⟨w3, hw3⟩ : ∃ W, W = w9 := ⟨_, rfl⟩
  subst hw3
  go_upto_region 19 with fail
  try rw [show ∀ a : Act, a.put none undef = a from fun _ => rfl]
  have hDR : Below w3.heap.size w3 ({ w3 with drawn := w3.drawn + 1 } : World) := (Below.refl _ _).drew
  have HSD : Hid (AS own0 w0 (rowE L 56 6 (Value.slice none 0 0) ([] : List Ac).length (flatA ([] : List Ac)) :: pES K hK s pb mb cb (repX x frm ⟨er, ek⟩ hld) g r R) ({ w3 with drawn := w3.drawn + 1 } : World)) := HSA.out.more hDR
  have HC0 : (fun wz : World => wz.cell? ⟨pb, 0, none⟩ = some (.pointer (some ⟨mb, 0, none⟩)) ∧ wz.cell? ⟨pb, 1, none⟩ = some (.pointer (some ⟨g.rb, 0, none⟩)) ∧ Blk wz p4 #[.int .i64 who, .int .i64 4, .int .i64 lim, .int .i64 rts, .int .i64 hld, .bool all, .bool true, .int .i64 frm, .int .i64 er, .int .i64 ek, .int .i64 c, .int .i64 d] 78) ({ w3 with drawn := w3.drawn + 1 } : World) := ⟨(pES.cl HSD.out.drop).1, (pES.cl HSD.out.drop).2, Blk.up (w := w3) HB4.out hDR⟩
  refine wp_region_mix (fun wz : World => wz.cell? ⟨pb, 0, none⟩ = some (.pointer (some ⟨mb, 0, none⟩)) ∧ wz.cell? ⟨pb, 1, none⟩ = some (.pointer (some ⟨g.rb, 0, none⟩)) ∧ Blk wz p4 #[.int .i64 who, .int .i64 4, .int .i64 lim, .int .i64 rts, .int .i64 hld, .bool all, .bool true, .int .i64 frm, .int .i64 er, .int .i64 ek, .int .i64 c, .int .i64 d] 78) (fun i => i == 10) 10 (by kernel_rfl) rfl (by kernel_rfl) (by kernel_rfl) (by kernel_rfl) ?_
  refine withFrP (N := 169) rfl ?_
  intro f0 F0 hff
  have ee0 : f0 0 = Value.pointer (some ⟨pb, 0, none⟩) := hff 0
  have ee4 : f0 4 = Value.pointer (some ⟨p4, 0, none⟩) := hff 4
  clear hff
  refine lyp F0 rfl HC0 rfl (by omega) (wanted_none rfl) (v := Value.pointer (some ⟨pb, 0, none⟩)) (fun wr hwr => by simp only [execOp, (F0.eval 0 (by omega)).trans (show _ = Value.pointer (some ⟨pb, 0, none⟩) from by simp [upd, ee0, ee4])]; first | rfl | simp [go_sem]) fun F1 => ?_
  refine lyp F1 rfl HC0 rfl (by omega) (wanted_none rfl) (v := Value.pointer (some ⟨pb, 0, none⟩)) (fun wr hwr => by simp only [execOp, (F1.eval 105 (by omega)).trans (show _ = Value.pointer (some ⟨pb, 0, none⟩) from by simp [upd, ee0, ee4])]; simp [go_sem]) fun F2 => ?_
  refine lyp F2 rfl HC0 rfl (by omega) (wanted_none rfl) (v := Value.pointer (some ⟨pb, 1, none⟩)) (fun wr hwr => by simp only [execOp, (F2.eval 106 (by omega)).trans (show _ = Value.pointer (some ⟨pb, 0, none⟩) from by simp [upd, ee0, ee4])]; simp [go_sem]) fun F3 => ?_
  refine lyp F3 rfl HC0 rfl (by omega) (wanted_none rfl) (v := Value.pointer (some ⟨g.rb, 0, none⟩)) (fun wr hwr => by simp only [execOp, (F3.eval 107 (by omega)).trans (show _ = Value.pointer (some ⟨pb, 1, none⟩) from by simp [upd, ee0, ee4])]; simp [go_sem, hwr.2.1]) fun F4 => ?_
  refine lyp F4 rfl HC0 rfl (by omega) (wanted_none rfl) (v := Value.pointer (some ⟨p4, 7, none⟩)) (fun wr hwr => by simp only [execOp, (F4.eval 4 (by omega)).trans (show _ = Value.pointer (some ⟨p4, 0, none⟩) from by simp [upd, ee0, ee4])]; simp [go_sem]) fun F5 => ?_
  refine lyp F5 rfl HC0 rfl (by omega) (wanted_none rfl) (v := Value.int .i64 frm) (fun wr hwr => by simp only [execOp, (F5.eval 109 (by omega)).trans (show _ = Value.pointer (some ⟨p4, 7, none⟩) from by simp [upd, ee0, ee4])]; simp [go_sem, (hwr.2.2.cell 7)]) fun F6 => ?_
  refine lyp F6 rfl HC0 rfl (by omega) (wanted_none rfl) (v := Value.pointer (some ⟨p4, 8, none⟩)) (fun wr hwr => by simp only [execOp, (F6.eval 4 (by omega)).trans (show _ = Value.pointer (some ⟨p4, 0, none⟩) from by simp [upd, ee0, ee4])]; simp [go_sem]) fun F7 => ?_
  refine lyp F7 rfl HC0 rfl (by omega) (wanted_none rfl) (v := Value.agg #[Value.int .i64 er, Value.int .i64 ek]) (fun wr hwr => by have h0 := hwr.2.2.cell 8; have h1 := hwr.2.2.cell 9; simp only [execOp, (F7.eval 111 (by omega)).trans (show _ = Value.pointer (some ⟨p4, 8, none⟩) from by simp [upd, ee0, ee4])]; simp [go_sem, h0, h1]) fun F8 => ?_
  refine lyp F8 rfl HC0 rfl (by omega) (wanted_none rfl) (v := Value.pointer (some ⟨p4, 4, none⟩)) (fun wr hwr => by simp only [execOp, (F8.eval 4 (by omega)).trans (show _ = Value.pointer (some ⟨p4, 0, none⟩) from by simp [upd, ee0, ee4])]; simp [go_sem]) fun F9 => ?_
  refine lyp F9 rfl HC0 rfl (by omega) (wanted_none rfl) (v := Value.int .i64 hld) (fun wr hwr => by simp only [execOp, (F9.eval 113 (by omega)).trans (show _ = Value.pointer (some ⟨p4, 4, none⟩) from by simp [upd, ee0, ee4])]; simp [go_sem, (hwr.2.2.cell 4)]) fun F10 => ?_
  refine lcp F10 rfl HC0 rfl (by omega) (wanted_none rfl) (g := 50) (args := #[Value.pointer (some ⟨g.rb, 0, none⟩), Value.int .i64 frm, Value.agg #[Value.int .i64 er, Value.int .i64 ek], Value.int .i64 hld]) (by simp only [execOp, resolve, invoke, List.map_toArray, List.map_cons, List.map_nil, (F10.eval 108 (by omega)).trans (show _ = Value.pointer (some ⟨g.rb, 0, none⟩) from by simp [upd, ee0, ee4]), (F10.eval 110 (by omega)).trans (show _ = Value.int .i64 frm from by simp [upd, ee0, ee4]), (F10.eval 112 (by omega)).trans (show _ = Value.agg #[Value.int .i64 er, Value.int .i64 ek] from by simp [upd, ee0, ee4]), (F10.eval 114 (by omega)).trans (show _ = Value.int .i64 hld from by simp [upd, ee0, ee4])]; simp [go_sem, Act.eval]) (rrep_any frm ⟨er, ek⟩ hld _ (pES.rm HSD.out.drop) HA.out HX.out (by have := HSZ.out; unfold RV.sz at this; omega)) ?_
  rintro e w9 ⟨rfl, g5, hm5, hs5⟩
  have HRB : Hid (g5.rb = g.rb) := hs5.1
  have hch5 := hs5.2.1
  have HSR : Hid (AS own0 w0 (rowE L 56 6 (Value.slice none 0 0) ([] : List Ac).length (flatA ([] : List Ac)) :: pES K hK s pb mb cb (repX x frm ⟨er, ek⟩ hld) g5 (repR x r frm ⟨er, ek⟩ hld) R) w9) := pES.ref (F := [rowE L 56 6 (Value.slice none 0 0) ([] : List Ac).length (flatA ([] : List Ac))]) HSD.out hm5 hs5
  have HC9 : (fun wz : World => wz.cell? ⟨pb, 0, none⟩ = some (.pointer (some ⟨mb, 0, none⟩)) ∧ wz.cell? ⟨pb, 1, none⟩ = some (.pointer (some ⟨g.rb, 0, none⟩)) ∧ Blk wz p4 #[.int .i64 who, .int .i64 4, .int .i64 lim, .int .i64 rts, .int .i64 hld, .bool all, .bool true, .int .i64 frm, .int .i64 er, .int .i64 ek, .int .i64 c, .int .i64 d] 78) w9 := ⟨(pES.cl HSR.out.drop).1, by rw [← HRB.out]; exact (pES.cl HSR.out.drop).2, hch5.blk (Blk.up (w := w3) HB4.out hDR) HPR.out⟩
  have HO2 : Hid (w9.ownsRow 0 117 6 (.slice none 0 0) ([] : List Ac).length (flatA [])) := World.ownsRow_nil _ _ _ _
  refine ⟨_, rfl, fun F11 => ?_⟩
  refine ⟨fun h => by omega, ?_⟩
  clear F0 F1 F2 F3 F4 F5 F6 F7 F8 F9 F10 F11 ee0 ee4 HC0 HC9 hDR
  simp only [Act.put, List.setIfInBounds_toArray, List.set_cons_succ, List.set_cons_zero]
  clear HSD hch5 hs5
  clear hm5
  go_wp2_with (first
    | (go_at_call 53; refine Calls.mono (same_any _ (show w9.ownsRow L 56 6 (.slice none 0 0) _ _ from HSR.out.head) HO2.out) ?_; rintro e w6 ⟨rfl, hb6⟩; have HS6 : Hid _ := HSR.out.more hb6; clear hb6)
    | (go_at_call 54; refine Calls.mono (pES.putA HS6.out HLN.out (by have := HCN.out; omega)) ?_; rintro e w7 ⟨rfl, s7, hs7, hc7⟩; have HS7 : Hid _ := hs7; have HC7 : Hid _ := hc7; clear hs7 hc7)
    | (go_at_call 55; refine Calls.mono (looks_any w7 HS7.out HA2.out HX2.out (pES.lw HS7.out).1 (pES.lw HS7.out).2 (by have := HCN.out; have := HC7.out; omega)) ?_; rintro e w8 ⟨rfl, s8, hs8, hc8⟩; have HS8 : Hid _ := hs8; have HC8 : Hid _ := hc8; clear hs8 hc8)
    | fail)
  go_ret
  exact ⟨rfl, s8, _, HS8.out, by have := HC7.out; have := HC8.out; omega⟩
end Go.Proofs.Ytjojhhkbebddmaa
namespace Go.Proofs.Ytjojhhkbebddmaa
open Go.RowKit Go.PlainAid
set_option linter.unusedVariables false
set_option linter.unusedSimpArgs false
set_option maxRecDepth 100000 in
set_option maxHeartbeats 12800000 in
theorem pl_5_false {σ : Type} {L kb pb mb cb : Nat} {K : Keeper σ L kb} {hK : KFr K} {s : σ} {x : EV} {g : RG} {r : RV} {R : List (Ent L)} {own0 : Nat → Prop} {w0 : World} (who lim rts hld frm a b c d er ek : Int) (all : Bool) (w : World) (h : AS own0 w0 (pES K hK s pb mb cb x g r R) w) (ha : Agr x r) (hx : x.Nm) (hsz : r.sz ≤ 999999980) (hcnt : K.cnt s ≤ 999999999900) (hE : liveE x x.me = ⟨er, ek⟩) : Calls Try.prog 27 #[.pointer (some ⟨pb, 0, none⟩), .agg #[.int .i64 who, .int .i64 5, .int .i64 lim, .int .i64 rts, .int .i64 hld, .bool all, .bool false, .int .i64 frm, .int .i64 a, .int .i64 b, .int .i64 c, .int .i64 d], .pointer (some ⟨kb, 0, none⟩)] w fun e w' => e = .returned (.bool true) ∧ ∃ s' g', AS own0 w0 (pES K hK s' pb mb cb x g' r R) w' ∧ K.cnt s' ≤ K.cnt s + 36 := by
  have HX : Hid _ := hx
  have HA : Hid _ := ha
  have HX2 : Hid (EV.Nm x) := hx
  have HA2 : Hid (Agr x r) := show Agr x r from ha
  have HLN : Hid ((lookA x lim rts hld).length ≤ 1000000) := show (lookA x lim rts hld).length ≤ 1000000 from Nat.le_trans (lookA_len _ _ _ _) (by decide)
  have HSZ : Hid _ := hsz
  have HCN : Hid _ := hcnt
  have HLB : Hid _ := ha.lastB
  obtain ⟨p4, hp4⟩ : ∃ p, p = w.heap.size := ⟨_, rfl⟩
  have HP4 : Hid (∀ k, has (pES K hK s pb mb cb x g r R) k → k < p4) := show ∀ k, has (pES K hK s pb mb cb x g r R) k → k < p4 from fun k hk => by rw [hp4]; exact (h.h.typ hk).2
  have HPM : Hid (¬ mown mb cb p4) := show ¬ mown mb cb p4 from fun e => by have := HP4.out p4 (by unfold pES; rw [has_cons, has_cons, has_cons]; exact .inr (.inr (.inl e))); omega
  have HPR : Hid (¬ rown g p4) := show ¬ rown g p4 from fun e => by have := HP4.out p4 (by unfold pES; rw [has_cons, has_cons, has_cons, has_cons]; exact .inr (.inr (.inr (.inl e)))); omega
  have hbW : Below w.heap.size w (w.alloc (.cells #[.int .i64 who, .int .i64 5, .int .i64 lim, .int .i64 rts, .int .i64 hld, .bool all, .bool false, .int .i64 frm, .int .i64 a, .int .i64 b, .int .i64 c, .int .i64 d] 78)) := (Below.refl _ _).alloc (Nat.le_refl _) _
  have HS0 : Hid (AS own0 w0 (pES K hK s pb mb cb x g r R) (w.alloc (.cells #[.int .i64 who, .int .i64 5, .int .i64 lim, .int .i64 rts, .int .i64 hld, .bool all, .bool false, .int .i64 frm, .int .i64 a, .int .i64 b, .int .i64 c, .int .i64 d] 78))) := h.more hbW
  have HB0 : Hid (Blk (w.alloc (.cells #[.int .i64 who, .int .i64 5, .int .i64 lim, .int .i64 rts, .int .i64 hld, .bool all, .bool false, .int .i64 frm, .int .i64 a, .int .i64 b, .int .i64 c, .int .i64 d] 78)) p4 #[.int .i64 who, .int .i64 5, .int .i64 lim, .int .i64 rts, .int .i64 hld, .bool all, .bool false, .int .i64 frm, .int .i64 a, .int .i64 b, .int .i64 c, .int .i64 d] 78) := show Blk _ _ _ _ from by rw [hp4]; exact heap_alloc_new w _
  have hlt4 : p4 < (w.alloc (.cells #[.int .i64 who, .int .i64 5, .int .i64 lim, .int .i64 rts, .int .i64 hld, .bool all, .bool false, .int .i64 frm, .int .i64 a, .int .i64 b, .int .i64 c, .int .i64 d] 78)).heap.size := HB0.out.lt
  clear h ha hx hsz hcnt hbW hE
  unfold epV at *
  go_enter Try.func27, Try.ntmps27
  go_upto_region 1 with fail
  try rw [← hp4]
  clear hp4
  generalize w.alloc (.cells #[.int .i64 who, .int .i64 5, .int .i64 lim, .int .i64 rts, .int .i64 hld, .bool all, .bool false, .int .i64 frm, .int .i64 a, .int .i64 b, .int .i64 c, .int .i64 d] 78) = W0 at *
  have hq6 : W0.cell? ⟨p4, 6, none⟩ = some (.bool false) := HB0.out.cell 6
  obtain ⟨c0, c1⟩ := pES.cl HS0.out
  go_upto_region 3 with fail
  have HB4 : Hid (Blk W0 p4 #[.int .i64 who, .int .i64 5, .int .i64 lim, .int .i64 rts, .int .i64 hld, .bool all, .bool false, .int .i64 frm, .int .i64 a, .int .i64 b, .int .i64 c, .int .i64 d] 78) := HB0.out
  have HS : Hid (AS own0 w0 (pES K hK s pb mb cb x g r R) W0) := HS0.out
  clear hq6 c0 c1
  have hWW : ∃ W, W = W0 := ⟨_, rfl⟩
  obtain ⟨W, hWW⟩ := hWW
  subst hWW
  have q1 : W.cell? ⟨p4, 1, none⟩ = some (.int .i64 5) := HB4.out.cell 1
  have hlt4W : p4 < W.heap.size := HB4.out.lt
  clear HS0 HB0 hlt4
  go_upto_region 21 with fail
  rename_i K1 hK1
  try rw [show ∀ a : Act, a.put none undef = a from fun _ => rfl]
  have hDR : Below W.heap.size W ({ W with drawn := W.drawn + 1 } : World) := (Below.refl _ _).drew
  have HSD : Hid (AS own0 w0 (pES K hK s pb mb cb x g r R) ({ W with drawn := W.drawn + 1 } : World)) := HS.out.more hDR
  have HC0 : (fun wz : World => wz.cell? ⟨pb, 0, none⟩ = some (.pointer (some ⟨mb, 0, none⟩)) ∧ wz.cell? ⟨pb, 1, none⟩ = some (.pointer (some ⟨g.rb, 0, none⟩)) ∧ Blk wz p4 #[.int .i64 who, .int .i64 5, .int .i64 lim, .int .i64 rts, .int .i64 hld, .bool all, .bool false, .int .i64 frm, .int .i64 a, .int .i64 b, .int .i64 c, .int .i64 d] 78) ({ W with drawn := W.drawn + 1 } : World) := ⟨(pES.cl HSD.out).1, (pES.cl HSD.out).2, Blk.up (w := W) HB4.out hDR⟩
  refine wp_region_mix (fun wz : World => wz.cell? ⟨pb, 0, none⟩ = some (.pointer (some ⟨mb, 0, none⟩)) ∧ wz.cell? ⟨pb, 1, none⟩ = some (.pointer (some ⟨g.rb, 0, none⟩)) ∧ Blk wz p4 #[.int .i64 who, .int .i64 5, .int .i64 lim, .int .i64 rts, .int .i64 hld, .bool all, .bool false, .int .i64 frm, .int .i64 a, .int .i64 b, .int .i64 c, .int .i64 d] 78) (fun i => i == 10 || i == 11) 11 (by kernel_rfl) rfl (by kernel_rfl) (by kernel_rfl) (by kernel_rfl) ?_
  refine withFrP (N := 169) rfl ?_
  intro f0 F0 hff
  have ee0 : f0 0 = Value.pointer (some ⟨pb, 0, none⟩) := hff 0
  have ee4 : f0 4 = Value.pointer (some ⟨p4, 0, none⟩) := hff 4
  clear hff
  refine lyp F0 rfl HC0 rfl (by omega) (wanted_none rfl) (v := Value.pointer (some ⟨pb, 0, none⟩)) (fun wr hwr => by simp only [execOp, (F0.eval 0 (by omega)).trans (show _ = Value.pointer (some ⟨pb, 0, none⟩) from by simp [upd, ee0, ee4])]; first | rfl | simp [go_sem]) fun F1 => ?_
  refine lyp F1 rfl HC0 rfl (by omega) (wanted_none rfl) (v := Value.pointer (some ⟨pb, 0, none⟩)) (fun wr hwr => by simp only [execOp, (F1.eval 118 (by omega)).trans (show _ = Value.pointer (some ⟨pb, 0, none⟩) from by simp [upd, ee0, ee4])]; simp [go_sem]) fun F2 => ?_
  refine lyp F2 rfl HC0 rfl (by omega) (wanted_none rfl) (v := Value.pointer (some ⟨pb, 0, none⟩)) (fun wr hwr => by simp only [execOp, (F2.eval 119 (by omega)).trans (show _ = Value.pointer (some ⟨pb, 0, none⟩) from by simp [upd, ee0, ee4])]; simp [go_sem]) fun F3 => ?_
  refine lyp F3 rfl HC0 rfl (by omega) (wanted_none rfl) (v := Value.pointer (some ⟨mb, 0, none⟩)) (fun wr hwr => by simp only [execOp, (F3.eval 120 (by omega)).trans (show _ = Value.pointer (some ⟨pb, 0, none⟩) from by simp [upd, ee0, ee4])]; simp [go_sem, hwr.1]) fun F4 => ?_
  refine lyp F4 rfl HC0 rfl (by omega) (wanted_none rfl) (v := Value.pointer (some ⟨p4, 2, none⟩)) (fun wr hwr => by simp only [execOp, (F4.eval 4 (by omega)).trans (show _ = Value.pointer (some ⟨p4, 0, none⟩) from by simp [upd, ee0, ee4])]; simp [go_sem]) fun F5 => ?_
  refine lyp F5 rfl HC0 rfl (by omega) (wanted_none rfl) (v := Value.int .i64 lim) (fun wr hwr => by simp only [execOp, (F5.eval 122 (by omega)).trans (show _ = Value.pointer (some ⟨p4, 2, none⟩) from by simp [upd, ee0, ee4])]; simp [go_sem, (hwr.2.2.cell 2)]) fun F6 => ?_
  refine lyp F6 rfl HC0 rfl (by omega) (wanted_none rfl) (v := Value.pointer (some ⟨p4, 3, none⟩)) (fun wr hwr => by simp only [execOp, (F6.eval 4 (by omega)).trans (show _ = Value.pointer (some ⟨p4, 0, none⟩) from by simp [upd, ee0, ee4])]; simp [go_sem]) fun F7 => ?_
  refine lyp F7 rfl HC0 rfl (by omega) (wanted_none rfl) (v := Value.int .i64 rts) (fun wr hwr => by simp only [execOp, (F7.eval 124 (by omega)).trans (show _ = Value.pointer (some ⟨p4, 3, none⟩) from by simp [upd, ee0, ee4])]; simp [go_sem, (hwr.2.2.cell 3)]) fun F8 => ?_
  refine lyp F8 rfl HC0 rfl (by omega) (wanted_none rfl) (v := Value.pointer (some ⟨p4, 4, none⟩)) (fun wr hwr => by simp only [execOp, (F8.eval 4 (by omega)).trans (show _ = Value.pointer (some ⟨p4, 0, none⟩) from by simp [upd, ee0, ee4])]; simp [go_sem]) fun F9 => ?_
  refine lyp F9 rfl HC0 rfl (by omega) (wanted_none rfl) (v := Value.int .i64 hld) (fun wr hwr => by simp only [execOp, (F9.eval 126 (by omega)).trans (show _ = Value.pointer (some ⟨p4, 4, none⟩) from by simp [upd, ee0, ee4])]; simp [go_sem, (hwr.2.2.cell 4)]) fun F10 => ?_
  refine lcp F10 rfl HC0 rfl (by omega) (wanted_none rfl) (g := 18) (args := #[Value.pointer (some ⟨mb, 0, none⟩), Value.int .i64 lim, Value.int .i64 rts, Value.int .i64 hld]) (by simp only [execOp, resolve, invoke, List.map_toArray, List.map_cons, List.map_nil, (F10.eval 121 (by omega)).trans (show _ = Value.pointer (some ⟨mb, 0, none⟩) from by simp [upd, ee0, ee4]), (F10.eval 123 (by omega)).trans (show _ = Value.int .i64 lim from by simp [upd, ee0, ee4]), (F10.eval 125 (by omega)).trans (show _ = Value.int .i64 rts from by simp [upd, ee0, ee4]), (F10.eval 127 (by omega)).trans (show _ = Value.int .i64 hld from by simp [upd, ee0, ee4])]; simp [go_sem, Act.eval]) (look_any lim rts hld _ (pES.mm HSD.out) HX.out) ?_
  rintro e w9 ⟨v1, rfl, ho1, hm1, hc1⟩
  have HS9 : Hid (AS own0 w0 (rowE L 56 6 v1 (lookA x lim rts hld).length (flatA (lookA x lim rts hld)) :: pES K hK s pb mb cb x g r R) w9) := pES.step HSD.out ho1 hm1 hc1
  have HC9 : (fun wz : World => wz.cell? ⟨pb, 0, none⟩ = some (.pointer (some ⟨mb, 0, none⟩)) ∧ wz.cell? ⟨pb, 1, none⟩ = some (.pointer (some ⟨g.rb, 0, none⟩)) ∧ Blk wz p4 #[.int .i64 who, .int .i64 5, .int .i64 lim, .int .i64 rts, .int .i64 hld, .bool all, .bool false, .int .i64 frm, .int .i64 a, .int .i64 b, .int .i64 c, .int .i64 d] 78) w9 := ⟨(pES.cl HS9.out.drop).1, (pES.cl HS9.out.drop).2, hc1.blk (Blk.up (w := W) HB4.out hDR) HPM.out⟩
  have HBN : Hid (Blk w9 p4 #[.int .i64 who, .int .i64 5, .int .i64 lim, .int .i64 rts, .int .i64 hld, .bool all, .bool false, .int .i64 frm, .int .i64 a, .int .i64 b, .int .i64 c, .int .i64 d] 78) := HC9.2.2
  refine ⟨_, rfl, fun F11 => ?_⟩
  refine lep F11 rfl HC9 rfl (by omega) (wanted_none rfl) (v := v1) (w1 := w9) (by simp only [execOp, (F11.eval 128 (by omega)).trans (show _ = v1 from by simp [upd, ee0, ee4])]; first | rfl | simp [go_sem]) fun F12 => ?_
  refine ⟨fun h => by omega, ?_⟩
  refine hK1 _ _ ?_
  clear F0 F1 F2 F3 F4 F5 F6 F7 F8 F9 F10 F11 F12 ee0 ee4 HC0 HC9 hDR
  simp only [Act.put, List.setIfInBounds_toArray, List.set_cons_succ, List.set_cons_zero]
  have HB4 : Hid (Blk w9 p4 #[.int .i64 who, .int .i64 5, .int .i64 lim, .int .i64 rts, .int .i64 hld, .bool all, .bool false, .int .i64 frm, .int .i64 a, .int .i64 b, .int .i64 c, .int .i64 d] 78) := HBN.out
  have hltw : p4 < w9.heap.size := HB4.out.lt
  have HSA : Hid (AS own0 w0 (rowE L 56 6 v1 (lookA x lim rts hld).length (flatA (lookA x lim rts hld)) :: pES K hK s pb mb cb x g r R) w9) := HS9.out
  clear HBN HS9 HSD HS hc1 hm1 ho1 q1
  obtain ⟨w3, hw3⟩ : ∃ W, W = w9 := ⟨_, rfl⟩
  subst hw3
  go_upto_region 22 with fail
  try rw [show ∀ a : Act, a.put none undef = a from fun _ => rfl]
  have hDR : Below w3.heap.size w3 ({ w3 with drawn := w3.drawn + 1 } : World) := (Below.refl _ _).drew
  have HSD : Hid (AS own0 w0 (rowE L 56 6 v1 (lookA x lim rts hld).length (flatA (lookA x lim rts hld)) :: pES K hK s pb mb cb x g r R) ({ w3 with drawn := w3.drawn + 1 } : World)) := HSA.out.more hDR
  have HC0 : (fun wz : World => wz.cell? ⟨pb, 0, none⟩ = some (.pointer (some ⟨mb, 0, none⟩)) ∧ wz.cell? ⟨pb, 1, none⟩ = some (.pointer (some ⟨g.rb, 0, none⟩)) ∧ Blk wz p4 #[.int .i64 who, .int .i64 5, .int .i64 lim, .int .i64 rts, .int .i64 hld, .bool all, .bool false, .int .i64 frm, .int .i64 a, .int .i64 b, .int .i64 c, .int .i64 d] 78) ({ w3 with drawn := w3.drawn + 1 } : World) := ⟨(pES.cl HSD.out.drop).1, (pES.cl HSD.out.drop).2, Blk.up (w := w3) HB4.out hDR⟩
  refine wp_region_mix (fun wz : World => wz.cell? ⟨pb, 0, none⟩ = some (.pointer (some ⟨mb, 0, none⟩)) ∧ wz.cell? ⟨pb, 1, none⟩ = some (.pointer (some ⟨g.rb, 0, none⟩)) ∧ Blk wz p4 #[.int .i64 who, .int .i64 5, .int .i64 lim, .int .i64 rts, .int .i64 hld, .bool all, .bool false, .int .i64 frm, .int .i64 a, .int .i64 b, .int .i64 c, .int .i64 d] 78) (fun i => i == 10 || i == 11) 11 (by kernel_rfl) rfl (by kernel_rfl) (by kernel_rfl) (by kernel_rfl) ?_
  refine withFrP (N := 169) rfl ?_
  intro f0 F0 hff
  have ee0 : f0 0 = Value.pointer (some ⟨pb, 0, none⟩) := hff 0
  have ee4 : f0 4 = Value.pointer (some ⟨p4, 0, none⟩) := hff 4
  clear hff
  refine lyp F0 rfl HC0 rfl (by omega) (wanted_none rfl) (v := Value.pointer (some ⟨pb, 0, none⟩)) (fun wr hwr => by simp only [execOp, (F0.eval 0 (by omega)).trans (show _ = Value.pointer (some ⟨pb, 0, none⟩) from by simp [upd, ee0, ee4])]; first | rfl | simp [go_sem]) fun F1 => ?_
  refine lyp F1 rfl HC0 rfl (by omega) (wanted_none rfl) (v := Value.pointer (some ⟨pb, 0, none⟩)) (fun wr hwr => by simp only [execOp, (F1.eval 129 (by omega)).trans (show _ = Value.pointer (some ⟨pb, 0, none⟩) from by simp [upd, ee0, ee4])]; simp [go_sem]) fun F2 => ?_
  refine lyp F2 rfl HC0 rfl (by omega) (wanted_none rfl) (v := Value.pointer (some ⟨pb, 1, none⟩)) (fun wr hwr => by simp only [execOp, (F2.eval 130 (by omega)).trans (show _ = Value.pointer (some ⟨pb, 0, none⟩) from by simp [upd, ee0, ee4])]; simp [go_sem]) fun F3 => ?_
  refine lyp F3 rfl HC0 rfl (by omega) (wanted_none rfl) (v := Value.pointer (some ⟨g.rb, 0, none⟩)) (fun wr hwr => by simp only [execOp, (F3.eval 131 (by omega)).trans (show _ = Value.pointer (some ⟨pb, 1, none⟩) from by simp [upd, ee0, ee4])]; simp [go_sem, hwr.2.1]) fun F4 => ?_
  refine lyp F4 rfl HC0 rfl (by omega) (wanted_none rfl) (v := Value.pointer (some ⟨p4, 2, none⟩)) (fun wr hwr => by simp only [execOp, (F4.eval 4 (by omega)).trans (show _ = Value.pointer (some ⟨p4, 0, none⟩) from by simp [upd, ee0, ee4])]; simp [go_sem]) fun F5 => ?_
  refine lyp F5 rfl HC0 rfl (by omega) (wanted_none rfl) (v := Value.int .i64 lim) (fun wr hwr => by simp only [execOp, (F5.eval 133 (by omega)).trans (show _ = Value.pointer (some ⟨p4, 2, none⟩) from by simp [upd, ee0, ee4])]; simp [go_sem, (hwr.2.2.cell 2)]) fun F6 => ?_
  refine lyp F6 rfl HC0 rfl (by omega) (wanted_none rfl) (v := Value.pointer (some ⟨p4, 3, none⟩)) (fun wr hwr => by simp only [execOp, (F6.eval 4 (by omega)).trans (show _ = Value.pointer (some ⟨p4, 0, none⟩) from by simp [upd, ee0, ee4])]; simp [go_sem]) fun F7 => ?_
  refine lyp F7 rfl HC0 rfl (by omega) (wanted_none rfl) (v := Value.int .i64 rts) (fun wr hwr => by simp only [execOp, (F7.eval 135 (by omega)).trans (show _ = Value.pointer (some ⟨p4, 3, none⟩) from by simp [upd, ee0, ee4])]; simp [go_sem, (hwr.2.2.cell 3)]) fun F8 => ?_
  refine lyp F8 rfl HC0 rfl (by omega) (wanted_none rfl) (v := Value.pointer (some ⟨p4, 4, none⟩)) (fun wr hwr => by simp only [execOp, (F8.eval 4 (by omega)).trans (show _ = Value.pointer (some ⟨p4, 0, none⟩) from by simp [upd, ee0, ee4])]; simp [go_sem]) fun F9 => ?_
  refine lyp F9 rfl HC0 rfl (by omega) (wanted_none rfl) (v := Value.int .i64 hld) (fun wr hwr => by simp only [execOp, (F9.eval 137 (by omega)).trans (show _ = Value.pointer (some ⟨p4, 4, none⟩) from by simp [upd, ee0, ee4])]; simp [go_sem, (hwr.2.2.cell 4)]) fun F10 => ?_
  refine lcp F10 rfl HC0 rfl (by omega) (wanted_none rfl) (g := 51) (args := #[Value.pointer (some ⟨g.rb, 0, none⟩), Value.int .i64 lim, Value.int .i64 rts, Value.int .i64 hld]) (by simp only [execOp, resolve, invoke, List.map_toArray, List.map_cons, List.map_nil, (F10.eval 132 (by omega)).trans (show _ = Value.pointer (some ⟨g.rb, 0, none⟩) from by simp [upd, ee0, ee4]), (F10.eval 134 (by omega)).trans (show _ = Value.int .i64 lim from by simp [upd, ee0, ee4]), (F10.eval 136 (by omega)).trans (show _ = Value.int .i64 rts from by simp [upd, ee0, ee4]), (F10.eval 138 (by omega)).trans (show _ = Value.int .i64 hld from by simp [upd, ee0, ee4])]; simp [go_sem, Act.eval]) (rlook_any lim rts hld _ (pES.rm HSD.out.drop) HA.out HX.out) ?_
  rintro e w9 ⟨v2, rfl, ho2, hb5⟩
  have hs5 : RStp g g _ w9 := RStp.refl hb5
  have HRB : Hid (g.rb = g.rb) := rfl
  have hch5 := hs5.2.1
  have HSR : Hid (AS own0 w0 (rowE L 56 6 v1 (lookA x lim rts hld).length (flatA (lookA x lim rts hld)) :: pES K hK s pb mb cb x g r R) w9) := HSD.out.more hb5
  have HC9 : (fun wz : World => wz.cell? ⟨pb, 0, none⟩ = some (.pointer (some ⟨mb, 0, none⟩)) ∧ wz.cell? ⟨pb, 1, none⟩ = some (.pointer (some ⟨g.rb, 0, none⟩)) ∧ Blk wz p4 #[.int .i64 who, .int .i64 5, .int .i64 lim, .int .i64 rts, .int .i64 hld, .bool all, .bool false, .int .i64 frm, .int .i64 a, .int .i64 b, .int .i64 c, .int .i64 d] 78) w9 := ⟨(pES.cl HSR.out.drop).1, by rw [← HRB.out]; exact (pES.cl HSR.out.drop).2, hch5.blk (Blk.up (w := w3) HB4.out hDR) HPR.out⟩
  have HO2 : Hid _ := ho2
  refine ⟨_, rfl, fun F11 => ?_⟩
  refine lep F11 rfl HC9 rfl (by omega) (wanted_none rfl) (v := v2) (w1 := w9) (by simp only [execOp, (F11.eval 139 (by omega)).trans (show _ = v2 from by simp [upd, ee0, ee4])]; first | rfl | simp [go_sem]) fun F12 => ?_
  refine ⟨fun h => by omega, ?_⟩
  clear F0 F1 F2 F3 F4 F5 F6 F7 F8 F9 F10 F11 F12 ee0 ee4 HC0 HC9 hDR
  simp only [Act.put, List.setIfInBounds_toArray, List.set_cons_succ, List.set_cons_zero]
  clear HSD hch5 hs5 ho2
  clear hb5
  go_wp2_with (first
    | (go_at_call 53; refine Calls.mono (same_any _ (show w9.ownsRow L 56 6 v1 _ _ from HSR.out.head) HO2.out) ?_; rintro e w6 ⟨rfl, hb6⟩; have HS6 : Hid _ := HSR.out.more hb6; clear hb6)
    | (go_at_call 54; refine Calls.mono (pES.putA HS6.out HLN.out (by have := HCN.out; omega)) ?_; rintro e w7 ⟨rfl, s7, hs7, hc7⟩; have HS7 : Hid _ := hs7; have HC7 : Hid _ := hc7; clear hs7 hc7)
    | (go_at_call 55; refine Calls.mono (looks_any w7 HS7.out HA2.out HX2.out (pES.lw HS7.out).1 (pES.lw HS7.out).2 (by have := HCN.out; have := HC7.out; omega)) ?_; rintro e w8 ⟨rfl, s8, hs8, hc8⟩; have HS8 : Hid _ := hs8; have HC8 : Hid _ := hc8; clear hs8 hc8)
    | fail)
  go_ret
  exact ⟨rfl, s8, _, HS8.out, by have := HC7.out; have := HC8.out; omega⟩
set_option maxRecDepth 100000 in
set_option maxHeartbeats 12800000 in
theorem pl_5_true {σ : Type} {L kb pb mb cb : Nat} {K : Keeper σ L kb} {hK : KFr K} {s : σ} {x : EV} {g : RG} {r : RV} {R : List (Ent L)} {own0 : Nat → Prop} {w0 : World} (who lim rts hld frm a b c d er ek : Int) (all : Bool) (w : World) (h : AS own0 w0 (pES K hK s pb mb cb x g r R) w) (ha : Agr x r) (hx : x.Nm) (hsz : r.sz ≤ 999999980) (hcnt : K.cnt s ≤ 999999999900) (hE : liveE x x.me = ⟨er, ek⟩) : Calls Try.prog 27 #[.pointer (some ⟨pb, 0, none⟩), .agg #[.int .i64 who, .int .i64 5, .int .i64 lim, .int .i64 rts, .int .i64 hld, .bool all, .bool true, .int .i64 frm, .int .i64 a, .int .i64 b, .int .i64 c, .int .i64 d], .pointer (some ⟨kb, 0, none⟩)] w fun e w' => e = .returned (.bool true) ∧ ∃ s' g', AS own0 w0 (pES K hK s' pb mb cb x g' r R) w' ∧ K.cnt s' ≤ K.cnt s + 36 := by
  have HX : Hid _ := hx
  have HA : Hid _ := ha
  have HX2 : Hid (EV.Nm x) := hx
  have HA2 : Hid (Agr x r) := show Agr x r from ha
  have HLN : Hid ((lookA x lim rts hld).length ≤ 1000000) := show (lookA x lim rts hld).length ≤ 1000000 from Nat.le_trans (lookA_len _ _ _ _) (by decide)
  have HSZ : Hid _ := hsz
  have HCN : Hid _ := hcnt
  have HLB : Hid _ := ha.lastB
  obtain ⟨p4, hp4⟩ : ∃ p, p = w.heap.size := ⟨_, rfl⟩
  have HP4 : Hid (∀ k, has (pES K hK s pb mb cb x g r R) k → k < p4) := show ∀ k, has (pES K hK s pb mb cb x g r R) k → k < p4 from fun k hk => by rw [hp4]; exact (h.h.typ hk).2
  have HPM : Hid (¬ mown mb cb p4) := show ¬ mown mb cb p4 from fun e => by have := HP4.out p4 (by unfold pES; rw [has_cons, has_cons, has_cons]; exact .inr (.inr (.inl e))); omega
  have HPR : Hid (¬ rown g p4) := show ¬ rown g p4 from fun e => by have := HP4.out p4 (by unfold pES; rw [has_cons, has_cons, has_cons, has_cons]; exact .inr (.inr (.inr (.inl e)))); omega
  have hbW : Below w.heap.size w (w.alloc (.cells #[.int .i64 who, .int .i64 5, .int .i64 lim, .int .i64 rts, .int .i64 hld, .bool all, .bool true, .int .i64 frm, .int .i64 a, .int .i64 b, .int .i64 c, .int .i64 d] 78)) := (Below.refl _ _).alloc (Nat.le_refl _) _
  have HS0 : Hid (AS own0 w0 (pES K hK s pb mb cb x g r R) (w.alloc (.cells #[.int .i64 who, .int .i64 5, .int .i64 lim, .int .i64 rts, .int .i64 hld, .bool all, .bool true, .int .i64 frm, .int .i64 a, .int .i64 b, .int .i64 c, .int .i64 d] 78))) := h.more hbW
  have HB0 : Hid (Blk (w.alloc (.cells #[.int .i64 who, .int .i64 5, .int .i64 lim, .int .i64 rts, .int .i64 hld, .bool all, .bool true, .int .i64 frm, .int .i64 a, .int .i64 b, .int .i64 c, .int .i64 d] 78)) p4 #[.int .i64 who, .int .i64 5, .int .i64 lim, .int .i64 rts, .int .i64 hld, .bool all, .bool true, .int .i64 frm, .int .i64 a, .int .i64 b, .int .i64 c, .int .i64 d] 78) := show Blk _ _ _ _ from by rw [hp4]; exact heap_alloc_new w _
  have hlt4 : p4 < (w.alloc (.cells #[.int .i64 who, .int .i64 5, .int .i64 lim, .int .i64 rts, .int .i64 hld, .bool all, .bool true, .int .i64 frm, .int .i64 a, .int .i64 b, .int .i64 c, .int .i64 d] 78)).heap.size := HB0.out.lt
  have HOW : Hid (∀ W, AS own0 w0 (pES K hK s pb mb cb x g r R) W → Calls Try.prog 46 #[.pointer (some ⟨g.rb, 0, none⟩)] W fun e w' => e = .returned (epV ⟨er, ek⟩) ∧ Below W.heap.size W w') := fun W hW => by rw [← hE]; exact rown_any W (pES.rm hW) ha hx
  have HW0 : Hid (w0.heap.size ≤ p4) := show w0.heap.size ≤ p4 from by rw [hp4]; exact h.chg.size
  clear h ha hx hsz hcnt hbW hE
  unfold epV at *
  go_enter Try.func27, Try.ntmps27
  go_upto_region 1 with fail
  try rw [← hp4]
  clear hp4
  generalize w.alloc (.cells #[.int .i64 who, .int .i64 5, .int .i64 lim, .int .i64 rts, .int .i64 hld, .bool all, .bool true, .int .i64 frm, .int .i64 a, .int .i64 b, .int .i64 c, .int .i64 d] 78) = W0 at *
  have hq6 : W0.cell? ⟨p4, 6, none⟩ = some (.bool true) := HB0.out.cell 6
  obtain ⟨c0, c1⟩ := pES.cl HS0.out
  go_upto_region 3 with (first
    | (go_at_call 46; refine Calls.mono (HOW.out _ HS0.out) ?_; rintro e w1 ⟨rfl, hb1⟩; have hB1 := Blk.up (w := W0) HB0.out hb1; have s8 := hB1.cell 8; have s9 := hB1.cell 9; have f8 := hB1.frozen 8; have f9 := hB1.frozen 9; clear hB1)
    | fail)
  have hc1 : Chg (fun k => k = p4) w1 ((w1.setCell ⟨p4, 8, none⟩ (.int .i64 er)).setCell ⟨p4, 9, none⟩ (.int .i64 ek)) := (setCell_chg _ _ _ _).trans (setCell_chg _ _ _ _) (fun _ _ e => e)
  have HB4 : Hid (Blk ((w1.setCell ⟨p4, 8, none⟩ (.int .i64 er)).setCell ⟨p4, 9, none⟩ (.int .i64 ek)) p4 #[.int .i64 who, .int .i64 5, .int .i64 lim, .int .i64 rts, .int .i64 hld, .bool all, .bool true, .int .i64 frm, .int .i64 er, .int .i64 ek, .int .i64 c, .int .i64 d] 78) := show Blk _ _ _ _ from ((Blk.up (w := W0) HB0.out hb1).set 8 _).set 9 _
  have HS : Hid (AS own0 w0 (pES K hK s pb mb cb x g r R) ((w1.setCell ⟨p4, 8, none⟩ (.int .i64 er)).setCell ⟨p4, 9, none⟩ (.int .i64 ek))) := show AS _ _ _ _ from by
    have h1 := HS0.out.more hb1
    exact ⟨h1.h.chg hc1 (fun k hk e => by have := HP4.out k hk; omega), h1.chg.trans hc1 (fun k hk e => by
      have h2 := HW0.out; omega), h1.new⟩
  generalize (w1.setCell ⟨p4, 8, none⟩ (.int .i64 er)).setCell ⟨p4, 9, none⟩ (.int .i64 ek) = W at *
  clear hc1 hb1 s8 s9 f8 f9 hq6 c0 c1 HOW
  have q1 : W.cell? ⟨p4, 1, none⟩ = some (.int .i64 5) := HB4.out.cell 1
  have hlt4W : p4 < W.heap.size := HB4.out.lt
  clear HS0 HB0 hlt4
  go_upto_region 21 with fail
  rename_i K1 hK1
  try rw [show ∀ a : Act, a.put none undef = a from fun _ => rfl]
  have hDR : Below W.heap.size W ({ W with drawn := W.drawn + 1 } : World) := (Below.refl _ _).drew
  have HSD : Hid (AS own0 w0 (pES K hK s pb mb cb x g r R) ({ W with drawn := W.drawn + 1 } : World)) := HS.out.more hDR
  have HC0 : (fun wz : World => wz.cell? ⟨pb, 0, none⟩ = some (.pointer (some ⟨mb, 0, none⟩)) ∧ wz.cell? ⟨pb, 1, none⟩ = some (.pointer (some ⟨g.rb, 0, none⟩)) ∧ Blk wz p4 #[.int .i64 who, .int .i64 5, .int .i64 lim, .int .i64 rts, .int .i64 hld, .bool all, .bool true, .int .i64 frm, .int .i64 er, .int .i64 ek, .int .i64 c, .int .i64 d] 78) ({ W with drawn := W.drawn + 1 } : World) := ⟨(pES.cl HSD.out).1, (pES.cl HSD.out).2, Blk.up (w := W) HB4.out hDR⟩
  refine wp_region_mix (fun wz : World => wz.cell? ⟨pb, 0, none⟩ = some (.pointer (some ⟨mb, 0, none⟩)) ∧ wz.cell? ⟨pb, 1, none⟩ = some (.pointer (some ⟨g.rb, 0, none⟩)) ∧ Blk wz p4 #[.int .i64 who, .int .i64 5, .int .i64 lim, .int .i64 rts, .int .i64 hld, .bool all, .bool true, .int .i64 frm, .int .i64 er, .int .i64 ek, .int .i64 c, .int .i64 d] 78) (fun i => i == 10 || i == 11) 11 (by kernel_rfl) rfl (by kernel_rfl) (by kernel_rfl) (by kernel_rfl) ?_
  refine withFrP (N := 169) rfl ?_
  intro f0 F0 hff
  have ee0 : f0 0 = Value.pointer (some ⟨pb, 0, none⟩) := hff 0
  have ee4 : f0 4 = Value.pointer (some ⟨p4, 0, none⟩) := hff 4
  clear hff
  refine lyp F0 rfl HC0 rfl (by omega) (wanted_none rfl) (v := Value.pointer (some ⟨pb, 0, none⟩)) (fun wr hwr => by simp only [execOp, (F0.eval 0 (by omega)).trans (show _ = Value.pointer (some ⟨pb, 0, none⟩) from by simp [upd, ee0, ee4])]; first | rfl | simp [go_sem]) fun F1 => ?_
  refine lyp F1 rfl HC0 rfl (by omega) (wanted_none rfl) (v := Value.pointer (some ⟨pb, 0, none⟩)) (fun wr hwr => by simp only [execOp, (F1.eval 118 (by omega)).trans (show _ = Value.pointer (some ⟨pb, 0, none⟩) from by simp [upd, ee0, ee4])]; simp [go_sem]) fun F2 => ?_
  refine lyp F2 rfl HC0 rfl (by omega) (wanted_none rfl) (v := Value.pointer (some ⟨pb, 0, none⟩)) (fun wr hwr => by simp only [execOp, (F2.eval 119 (by omega)).trans (show _ = Value.pointer (some ⟨pb, 0, none⟩) from by simp [upd, ee0, ee4])]; simp [go_sem]) fun F3 => ?_
  refine lyp F3 rfl HC0 rfl (by omega) (wanted_none rfl) (v := Value.pointer (some ⟨mb, 0, none⟩)) (fun wr hwr => by simp only [execOp, (F3.eval 120 (by omega)).trans (show _ = Value.pointer (some ⟨pb, 0, none⟩) from by simp [upd, ee0, ee4])]; simp [go_sem, hwr.1]) fun F4 => ?_
  refine lyp F4 rfl HC0 rfl (by omega) (wanted_none rfl) (v := Value.pointer (some ⟨p4, 2, none⟩)) (fun wr hwr => by simp only [execOp, (F4.eval 4 (by omega)).trans (show _ = Value.pointer (some ⟨p4, 0, none⟩) from by simp [upd, ee0, ee4])]; simp [go_sem]) fun F5 => ?_
  refine lyp F5 rfl HC0 rfl (by omega) (wanted_none rfl) (v := Value.int .i64 lim) (fun wr hwr => by simp only [execOp, (F5.eval 122 (by omega)).trans (show _ = Value.pointer (some ⟨p4, 2, none⟩) from by simp [upd, ee0, ee4])]; simp [go_sem, (hwr.2.2.cell 2)]) fun F6 => ?_
  refine lyp F6 rfl HC0 rfl (by omega) (wanted_none rfl) (v := Value.pointer (some ⟨p4, 3, none⟩)) (fun wr hwr => by simp only [execOp, (F6.eval 4 (by omega)).trans (show _ = Value.pointer (some ⟨p4, 0, none⟩) from by simp [upd, ee0, ee4])]; simp [go_sem]) fun F7 => ?_
  refine lyp F7 rfl HC0 rfl (by omega) (wanted_none rfl) (v := Value.int .i64 rts) (fun wr hwr => by simp only [execOp, (F7.eval 124 (by omega)).trans (show _ = Value.pointer (some ⟨p4, 3, none⟩) from by simp [upd, ee0, ee4])]; simp [go_sem, (hwr.2.2.cell 3)]) fun F8 => ?_
  refine lyp F8 rfl HC0 rfl (by omega) (wanted_none rfl) (v := Value.pointer (some ⟨p4, 4, none⟩)) (fun wr hwr => by simp only [execOp, (F8.eval 4 (by omega)).trans (show _ = Value.pointer (some ⟨p4, 0, none⟩) from by simp [upd, ee0, ee4])]; simp [go_sem]) fun F9 => ?_
  refine lyp F9 rfl HC0 rfl (by omega) (wanted_none rfl) (v := Value.int .i64 hld) (fun wr hwr => by simp only [execOp, (F9.eval 126 (by omega)).trans (show _ = Value.pointer (some ⟨p4, 4, none⟩) from by simp [upd, ee0, ee4])]; simp [go_sem, (hwr.2.2.cell 4)]) fun F10 => ?_
  refine lcp F10 rfl HC0 rfl (by omega) (wanted_none rfl) (g := 18) (args := #[Value.pointer (some ⟨mb, 0, none⟩), Value.int .i64 lim, Value.int .i64 rts, Value.int .i64 hld]) (by simp only [execOp, resolve, invoke, List.map_toArray, List.map_cons, List.map_nil, (F10.eval 121 (by omega)).trans (show _ = Value.pointer (some ⟨mb, 0, none⟩) from by simp [upd, ee0, ee4]), (F10.eval 123 (by omega)).trans (show _ = Value.int .i64 lim from by simp [upd, ee0, ee4]), (F10.eval 125 (by omega)).trans (show _ = Value.int .i64 rts from by simp [upd, ee0, ee4]), (F10.eval 127 (by omega)).trans (show _ = Value.int .i64 hld from by simp [upd, ee0, ee4])]; simp [go_sem, Act.eval]) (look_any lim rts hld _ (pES.mm HSD.out) HX.out) ?_
  rintro e w9 ⟨v1, rfl, ho1, hm1, hc1⟩
  have HS9 : Hid (AS own0 w0 (rowE L 56 6 v1 (lookA x lim rts hld).length (flatA (lookA x lim rts hld)) :: pES K hK s pb mb cb x g r R) w9) := pES.step HSD.out ho1 hm1 hc1
  have HC9 : (fun wz : World => wz.cell? ⟨pb, 0, none⟩ = some (.pointer (some ⟨mb, 0, none⟩)) ∧ wz.cell? ⟨pb, 1, none⟩ = some (.pointer (some ⟨g.rb, 0, none⟩)) ∧ Blk wz p4 #[.int .i64 who, .int .i64 5, .int .i64 lim, .int .i64 rts, .int .i64 hld, .bool all, .bool true, .int .i64 frm, .int .i64 er, .int .i64 ek, .int .i64 c, .int .i64 d] 78) w9 := ⟨(pES.cl HS9.out.drop).1, (pES.cl HS9.out.drop).2, hc1.blk (Blk.up (w := W) HB4.out hDR) HPM.out⟩
  have HBN : Hid (Blk w9 p4 #[.int .i64 who, .int .i64 5, .int .i64 lim, .int .i64 rts, .int .i64 hld, .bool all, .bool true, .int .i64 frm, .int .i64 er, .int .i64 ek, .int .i64 c, .int .i64 d] 78) := HC9.2.2
  refine ⟨_, rfl, fun F11 => ?_⟩
  refine lep F11 rfl HC9 rfl (by omega) (wanted_none rfl) (v := v1) (w1 := w9) (by simp only [execOp, (F11.eval 128 (by omega)).trans (show _ = v1 from by simp [upd, ee0, ee4])]; first | rfl | simp [go_sem]) fun F12 => ?_
  refine ⟨fun h => by omega, ?_⟩
  refine hK1 _ _ ?_
  clear F0 F1 F2 F3 F4 F5 F6 F7 F8 F9 F10 F11 F12 ee0 ee4 HC0 HC9 hDR
  simp only [Act.put, List.setIfInBounds_toArray, List.set_cons_succ, List.set_cons_zero]
  have HB4 : Hid (Blk w9 p4 #[.int .i64 who, .int .i64 5, .int .i64 lim, .int .i64 rts, .int .i64 hld, .bool all, .bool true, .int .i64 frm, .int .i64 er, .int .i64 ek, .int .i64 c, .int .i64 d] 78) := HBN.out
  have hltw : p4 < w9.heap.size := HB4.out.lt
  have HSA : Hid (AS own0 w0 (rowE L 56 6 v1 (lookA x lim rts hld).length (flatA (lookA x lim rts hld)) :: pES K hK s pb mb cb x g r R) w9) := HS9.out
  clear HBN HS9 HSD HS hc1 hm1 ho1 q1
  obtain ⟨w3, hw3⟩ : ∃ W, W = w9 := ⟨_, rfl⟩
  subst hw3
  go_upto_region 22 with fail
  try rw [show ∀ a : Act, a.put none undef = a from fun _ => rfl]
  have hDR : Below w3.heap.size w3 ({ w3 with drawn := w3.drawn + 1 } : World) := (Below.refl _ _).drew
  have HSD : Hid (AS own0 w0 (rowE L 56 6 v1 (lookA x lim rts hld).length (flatA (lookA x lim rts hld)) :: pES K hK s pb mb cb x g r R) ({ w3 with drawn := w3.drawn + 1 } : World)) := HSA.out.more hDR
  have HC0 : (fun wz : World => wz.cell? ⟨pb, 0, none⟩ = some (.pointer (some ⟨mb, 0, none⟩)) ∧ wz.cell? ⟨pb, 1, none⟩ = some (.pointer (some ⟨g.rb, 0, none⟩)) ∧ Blk wz p4 #[.int .i64 who, .int .i64 5, .int .i64 lim, .int .i64 rts, .int .i64 hld, .bool all, .bool true, .int .i64 frm, .int .i64 er, .int .i64 ek, .int .i64 c, .int .i64 d] 78) ({ w3 with drawn := w3.drawn + 1 } : World) := ⟨(pES.cl HSD.out.drop).1, (pES.cl HSD.out.drop).2, Blk.up (w := w3) HB4.out hDR⟩
  refine wp_region_mix (fun wz : World => wz.cell? ⟨pb, 0, none⟩ = some (.pointer (some ⟨mb, 0, none⟩)) ∧ wz.cell? ⟨pb, 1, none⟩ = some (.pointer (some ⟨g.rb, 0, none⟩)) ∧ Blk wz p4 #[.int .i64 who, .int .i64 5, .int .i64 lim, .int .i64 rts, .int .i64 hld, .bool all, .bool true, .int .i64 frm, .int .i64 er, .int .i64 ek, .int .i64 c, .int .i64 d] 78) (fun i => i == 10 || i == 11) 11 (by kernel_rfl) rfl (by kernel_rfl) (by kernel_rfl) (by kernel_rfl) ?_
  refine withFrP (N := 169) rfl ?_
  intro f0 F0 hff
  have ee0 : f0 0 = Value.pointer (some ⟨pb, 0, none⟩) := hff 0
  have ee4 : f0 4 = Value.pointer (some ⟨p4, 0, none⟩) := hff 4
  clear hff
  refine lyp F0 rfl HC0 rfl (by omega) (wanted_none rfl) (v := Value.pointer (some ⟨pb, 0, none⟩)) (fun wr hwr => by simp only [execOp, (F0.eval 0 (by omega)).trans (show _ = Value.pointer (some ⟨pb, 0, none⟩) from by simp [upd, ee0, ee4])]; first | rfl | simp [go_sem]) fun F1 => ?_
  refine lyp F1 rfl HC0 rfl (by omega) (wanted_none rfl) (v := Value.pointer (some ⟨pb, 0, none⟩)) (fun wr hwr => by simp only [execOp, (F1.eval 129 (by omega)).trans (show _ = Value.pointer (some ⟨pb, 0, none⟩) from by simp [upd, ee0, ee4])]; simp [go_sem]) fun F2 => ?_
  refine lyp F2 rfl HC0 rfl (by omega) (wanted_none rfl) (v := Value.pointer (some ⟨pb, 1, none⟩)) (fun wr hwr => by simp only [execOp, (F2.eval 130 (by omega)).trans (show _ = Value.pointer (some ⟨pb, 0, none⟩) from by simp [upd, ee0, ee4])]; simp [go_sem]) fun F3 => ?_
  refine lyp F3 rfl HC0 rfl (by omega) (wanted_none rfl) (v := Value.pointer (some ⟨g.rb, 0, none⟩)) (fun wr hwr => by simp only [execOp, (F3.eval 131 (by omega)).trans (show _ = Value.pointer (some ⟨pb, 1, none⟩) from by simp [upd, ee0, ee4])]; simp [go_sem, hwr.2.1]) fun F4 => ?_
  refine lyp F4 rfl HC0 rfl (by omega) (wanted_none rfl) (v := Value.pointer (some ⟨p4, 2, none⟩)) (fun wr hwr => by simp only [execOp, (F4.eval 4 (by omega)).trans (show _ = Value.pointer (some ⟨p4, 0, none⟩) from by simp [upd, ee0, ee4])]; simp [go_sem]) fun F5 => ?_
  refine lyp F5 rfl HC0 rfl (by omega) (wanted_none rfl) (v := Value.int .i64 lim) (fun wr hwr => by simp only [execOp, (F5.eval 133 (by omega)).trans (show _ = Value.pointer (some ⟨p4, 2, none⟩) from by simp [upd, ee0, ee4])]; simp [go_sem, (hwr.2.2.cell 2)]) fun F6 => ?_
  refine lyp F6 rfl HC0 rfl (by omega) (wanted_none rfl) (v := Value.pointer (some ⟨p4, 3, none⟩)) (fun wr hwr => by simp only [execOp, (F6.eval 4 (by omega)).trans (show _ = Value.pointer (some ⟨p4, 0, none⟩) from by simp [upd, ee0, ee4])]; simp [go_sem]) fun F7 => ?_
  refine lyp F7 rfl HC0 rfl (by omega) (wanted_none rfl) (v := Value.int .i64 rts) (fun wr hwr => by simp only [execOp, (F7.eval 135 (by omega)).trans (show _ = Value.pointer (some ⟨p4, 3, none⟩) from by simp [upd, ee0, ee4])]; simp [go_sem, (hwr.2.2.cell 3)]) fun F8 => ?_
  refine lyp F8 rfl HC0 rfl (by omega) (wanted_none rfl) (v := Value.pointer (some ⟨p4, 4, none⟩)) (fun wr hwr => by simp only [execOp, (F8.eval 4 (by omega)).trans (show _ = Value.pointer (some ⟨p4, 0, none⟩) from by simp [upd, ee0, ee4])]; simp [go_sem]) fun F9 => ?_
  refine lyp F9 rfl HC0 rfl (by omega) (wanted_none rfl) (v := Value.int .i64 hld) (fun wr hwr => by simp only [execOp, (F9.eval 137 (by omega)).trans (show _ = Value.pointer (some ⟨p4, 4, none⟩) from by simp [upd, ee0, ee4])]; simp [go_sem, (hwr.2.2.cell 4)]) fun F10 => ?_
  refine lcp F10 rfl HC0 rfl (by omega) (wanted_none rfl) (g := 51) (args := #[Value.pointer (some ⟨g.rb, 0, none⟩), Value.int .i64 lim, Value.int .i64 rts, Value.int .i64 hld]) (by simp only [execOp, resolve, invoke, List.map_toArray, List.map_cons, List.map_nil, (F10.eval 132 (by omega)).trans (show _ = Value.pointer (some ⟨g.rb, 0, none⟩) from by simp [upd, ee0, ee4]), (F10.eval 134 (by omega)).trans (show _ = Value.int .i64 lim from by simp [upd, ee0, ee4]), (F10.eval 136 (by omega)).trans (show _ = Value.int .i64 rts from by simp [upd, ee0, ee4]), (F10.eval 138 (by omega)).trans (show _ = Value.int .i64 hld from by simp [upd, ee0, ee4])]; simp [go_sem, Act.eval]) (rlook_any lim rts hld _ (pES.rm HSD.out.drop) HA.out HX.out) ?_
  rintro e w9 ⟨v2, rfl, ho2, hb5⟩
  have hs5 : RStp g g _ w9 := RStp.refl hb5
  have HRB : Hid (g.rb = g.rb) := rfl
  have hch5 := hs5.2.1
  have HSR : Hid (AS own0 w0 (rowE L 56 6 v1 (lookA x lim rts hld).length (flatA (lookA x lim rts hld)) :: pES K hK s pb mb cb x g r R) w9) := HSD.out.more hb5
  have HC9 : (fun wz : World => wz.cell? ⟨pb, 0, none⟩ = some (.pointer (some ⟨mb, 0, none⟩)) ∧ wz.cell? ⟨pb, 1, none⟩ = some (.pointer (some ⟨g.rb, 0, none⟩)) ∧ Blk wz p4 #[.int .i64 who, .int .i64 5, .int .i64 lim, .int .i64 rts, .int .i64 hld, .bool all, .bool true, .int .i64 frm, .int .i64 er, .int .i64 ek, .int .i64 c, .int .i64 d] 78) w9 := ⟨(pES.cl HSR.out.drop).1, by rw [← HRB.out]; exact (pES.cl HSR.out.drop).2, hch5.blk (Blk.up (w := w3) HB4.out hDR) HPR.out⟩
  have HO2 : Hid _ := ho2
  refine ⟨_, rfl, fun F11 => ?_⟩
  refine lep F11 rfl HC9 rfl (by omega) (wanted_none rfl) (v := v2) (w1 := w9) (by simp only [execOp, (F11.eval 139 (by omega)).trans (show _ = v2 from by simp [upd, ee0, ee4])]; first | rfl | simp [go_sem]) fun F12 => ?_
  refine ⟨fun h => by omega, ?_⟩
  clear F0 F1 F2 F3 F4 F5 F6 F7 F8 F9 F10 F11 F12 ee0 ee4 HC0 HC9 hDR
  simp only [Act.put, List.setIfInBounds_toArray, List.set_cons_succ, List.set_cons_zero]
  clear HSD hch5 hs5 ho2
  clear hb5
  go_wp2_with (first
    | (go_at_call 53; refine Calls.mono (same_any _ (show w9.ownsRow L 56 6 v1 _ _ from HSR.out.head) HO2.out) ?_; rintro e w6 ⟨rfl, hb6⟩; have HS6 : Hid _ := HSR.out.more hb6; clear hb6)
    | (go_at_call 54; refine Calls.mono (pES.putA HS6.out HLN.out (by have := HCN.out; omega)) ?_; rintro e w7 ⟨rfl, s7, hs7, hc7⟩; have HS7 : Hid _ := hs7; have HC7 : Hid _ := hc7; clear hs7 hc7)
    | (go_at_call 55; refine Calls.mono (looks_any w7 HS7.out HA2.out HX2.out (pES.lw HS7.out).1 (pES.lw HS7.out).2 (by have := HCN.out; have := HC7.out; omega)) ?_; rintro e w8 ⟨rfl, s8, hs8, hc8⟩; have HS8 : Hid _ := hs8; have HC8 : Hid _ := hc8; clear hs8 hc8)
    | fail)
  go_ret
  exact ⟨rfl, s8, _, HS8.out, by have := HC7.out; have := HC8.out; omega⟩
end Go.Proofs.Ytjojhhkbebddmaa
namespace Go.Proofs.Ytjojhhkbebddmaa
open Go.RowKit Go.PlainAid
set_option linter.unusedVariables false
set_option linter.unusedSimpArgs false
set_option maxRecDepth 100000 in
set_option maxHeartbeats 12800000 in
theorem pl_6_false {σ : Type} {L kb pb mb cb : Nat} {K : Keeper σ L kb} {hK : KFr K} {s : σ} {x : EV} {g : RG} {r : RV} {R : List (Ent L)} {own0 : Nat → Prop} {w0 : World} (who lim rts hld frm a b c d er ek : Int) (all : Bool) (w : World) (h : AS own0 w0 (pES K hK s pb mb cb x g r R) w) (ha : Agr x r) (hx : x.Nm) (hsz : r.sz ≤ 999999980) (hcnt : K.cnt s ≤ 999999999900) (hE : liveE x x.me = ⟨er, ek⟩) : Calls Try.prog 27 #[.pointer (some ⟨pb, 0, none⟩), .agg #[.int .i64 who, .int .i64 6, .int .i64 lim, .int .i64 rts, .int .i64 hld, .bool all, .bool false, .int .i64 frm, .int .i64 a, .int .i64 b, .int .i64 c, .int .i64 d], .pointer (some ⟨kb, 0, none⟩)] w fun e w' => e = .returned (.bool true) ∧ ∃ s' g', AS own0 w0 (pES K hK s' pb mb cb (finX x) g' (finR x r) R) w' ∧ K.cnt s' ≤ K.cnt s + 36 := by
  have HX : Hid _ := hx
  have HA : Hid _ := ha
  have HX2 : Hid (EV.Nm (finX x)) := finX_nm hx
  have HA2 : Hid (Agr (finX x) (finR x r)) := show Agr (finX x) (finR x r) from ha.fin
  have HLN : Hid ((finA x).length ≤ 1000000) := show (finA x).length ≤ 1000000 from Nat.le_trans (turnA_len _ _) (by decide)
  have HSZ : Hid _ := hsz
  have HCN : Hid _ := hcnt
  have HLB : Hid _ := ha.lastB
  obtain ⟨p4, hp4⟩ : ∃ p, p = w.heap.size := ⟨_, rfl⟩
  have HP4 : Hid (∀ k, has (pES K hK s pb mb cb x g r R) k → k < p4) := show ∀ k, has (pES K hK s pb mb cb x g r R) k → k < p4 from fun k hk => by rw [hp4]; exact (h.h.typ hk).2
  have HPM : Hid (¬ mown mb cb p4) := show ¬ mown mb cb p4 from fun e => by have := HP4.out p4 (by unfold pES; rw [has_cons, has_cons, has_cons]; exact .inr (.inr (.inl e))); omega
  have HPR : Hid (¬ rown g p4) := show ¬ rown g p4 from fun e => by have := HP4.out p4 (by unfold pES; rw [has_cons, has_cons, has_cons, has_cons]; exact .inr (.inr (.inr (.inl e)))); omega
  have hbW : Below w.heap.size w (w.alloc (.cells #[.int .i64 who, .int .i64 6, .int .i64 lim, .int .i64 rts, .int .i64 hld, .bool all, .bool false, .int .i64 frm, .int .i64 a, .int .i64 b, .int .i64 c, .int .i64 d] 78)) := (Below.refl _ _).alloc (Nat.le_refl _) _
  have HS0 : Hid (AS own0 w0 (pES K hK s pb mb cb x g r R) (w.alloc (.cells #[.int .i64 who, .int .i64 6, .int .i64 lim, .int .i64 rts, .int .i64 hld, .bool all, .bool false, .int .i64 frm, .int .i64 a, .int .i64 b, .int .i64 c, .int .i64 d] 78))) := h.more hbW
  have HB0 : Hid (Blk (w.alloc (.cells #[.int .i64 who, .int .i64 6, .int .i64 lim, .int .i64 rts, .int .i64 hld, .bool all, .bool false, .int .i64 frm, .int .i64 a, .int .i64 b, .int .i64 c, .int .i64 d] 78)) p4 #[.int .i64 who, .int .i64 6, .int .i64 lim, .int .i64 rts, .int .i64 hld, .bool all, .bool false, .int .i64 frm, .int .i64 a, .int .i64 b, .int .i64 c, .int .i64 d] 78) := show Blk _ _ _ _ from by rw [hp4]; exact heap_alloc_new w _
  have hlt4 : p4 < (w.alloc (.cells #[.int .i64 who, .int .i64 6, .int .i64 lim, .int .i64 rts, .int .i64 hld, .bool all, .bool false, .int .i64 frm, .int .i64 a, .int .i64 b, .int .i64 c, .int .i64 d] 78)).heap.size := HB0.out.lt
  clear h ha hx hsz hcnt hbW hE
  unfold epV at *
  go_enter Try.func27, Try.ntmps27
  go_upto_region 1 with fail
  try rw [← hp4]
  clear hp4
  generalize w.alloc (.cells #[.int .i64 who, .int .i64 6, .int .i64 lim, .int .i64 rts, .int .i64 hld, .bool all, .bool false, .int .i64 frm, .int .i64 a, .int .i64 b, .int .i64 c, .int .i64 d] 78) = W0 at *
  have hq6 : W0.cell? ⟨p4, 6, none⟩ = some (.bool false) := HB0.out.cell 6
  obtain ⟨c0, c1⟩ := pES.cl HS0.out
  go_upto_region 3 with fail
  have HB4 : Hid (Blk W0 p4 #[.int .i64 who, .int .i64 6, .int .i64 lim, .int .i64 rts, .int .i64 hld, .bool all, .bool false, .int .i64 frm, .int .i64 a, .int .i64 b, .int .i64 c, .int .i64 d] 78) := HB0.out
  have HS : Hid (AS own0 w0 (pES K hK s pb mb cb x g r R) W0) := HS0.out
  clear hq6 c0 c1
  have hWW : ∃ W, W = W0 := ⟨_, rfl⟩
  obtain ⟨W, hWW⟩ := hWW
  subst hWW
  have q1 : W.cell? ⟨p4, 1, none⟩ = some (.int .i64 6) := HB4.out.cell 1
  have hlt4W : p4 < W.heap.size := HB4.out.lt
  clear HS0 HB0 hlt4
  obtain ⟨c0, c1⟩ := pES.cl HS.out
  go_upto_region 26 with (first
    | (go_at_call 44; refine Calls.mono (finish_any _ (pES.mm HS.out) HX.out) ?_; rintro e w3 ⟨v1, rfl, ho1, hm1, hc1⟩; have HSA : Hid (AS own0 w0 (rowE L 56 6 v1 (finA x).length (flatA (finA x)) :: pES K hK s pb mb cb (finX x) g r R) w3) := pES.step HS.out ho1 hm1 hc1; obtain ⟨c0, c1⟩ := pES.cl HSA.out.drop)
    | (go_at_call 52; refine Calls.mono (rfin_any _ (pES.rm HSA.out.drop) HA.out HX.out (by have := HSZ.out; unfold RV.sz at this; omega)) ?_; rintro e w9 ⟨v2, rfl, ho2, g5, hm5, hs5⟩; have HSR : Hid (AS own0 w0 (rowE L 56 6 v1 (finA x).length (flatA (finA x)) :: pES K hK s pb mb cb (finX x) g5 (finR x r) R) w9) := pES.ref (F := [rowE L 56 6 v1 (finA x).length (flatA (finA x))]) HSA.out hm5 hs5; have HO2 : Hid _ := ho2)
    | fail)
  clear ho1 hm1 hc1 ho2 hm5 hs5 HSA HS c0 c1 q1
  go_wp2_with (first
    | (go_at_call 53; refine Calls.mono (same_any _ (show w9.ownsRow L 56 6 v1 _ _ from HSR.out.head) HO2.out) ?_; rintro e w6 ⟨rfl, hb6⟩; have HS6 : Hid _ := HSR.out.more hb6; clear hb6)
    | (go_at_call 54; refine Calls.mono (pES.putA HS6.out HLN.out (by have := HCN.out; omega)) ?_; rintro e w7 ⟨rfl, s7, hs7, hc7⟩; have HS7 : Hid _ := hs7; have HC7 : Hid _ := hc7; clear hs7 hc7)
    | (go_at_call 55; refine Calls.mono (looks_any w7 HS7.out HA2.out HX2.out (pES.lw HS7.out).1 (pES.lw HS7.out).2 (by have := HCN.out; have := HC7.out; omega)) ?_; rintro e w8 ⟨rfl, s8, hs8, hc8⟩; have HS8 : Hid _ := hs8; have HC8 : Hid _ := hc8; clear hs8 hc8)
    | fail)
  go_ret
  exact ⟨rfl, s8, _, HS8.out, by have := HC7.out; have := HC8.out; omega⟩
set_option maxRecDepth 100000 in
set_option maxHeartbeats 12800000 in
theorem pl_6_true {σ : Type} {L kb pb mb cb : Nat} {K : Keeper σ L kb} {hK : KFr K} {s : σ} {x : EV} {g : RG} {r : RV} {R : List (Ent L)} {own0 : Nat → Prop} {w0 : World} (who lim rts hld frm a b c d er ek : Int) (all : Bool) (w : World) (h : AS own0 w0 (pES K hK s pb mb cb x g r R) w) (ha : Agr x r) (hx : x.Nm) (hsz : r.sz ≤ 999999980) (hcnt : K.cnt s ≤ 999999999900) (hE : liveE x x.me = ⟨er, ek⟩) : Calls Try.prog 27 #[.pointer (some ⟨pb, 0, none⟩), .agg #[.int .i64 who, .int .i64 6, .int .i64 lim, .int .i64 rts, .int .i64 hld, .bool all, .bool true, .int .i64 frm, .int .i64 a, .int .i64 b, .int .i64 c, .int .i64 d], .pointer (some ⟨kb, 0, none⟩)] w fun e w' => e = .returned (.bool true) ∧ ∃ s' g', AS own0 w0 (pES K hK s' pb mb cb (finX x) g' (finR x r) R) w' ∧ K.cnt s' ≤ K.cnt s + 36 := by
  have HX : Hid _ := hx
  have HA : Hid _ := ha
  have HX2 : Hid (EV.Nm (finX x)) := finX_nm hx
  have HA2 : Hid (Agr (finX x) (finR x r)) := show Agr (finX x) (finR x r) from ha.fin
  have HLN : Hid ((finA x).length ≤ 1000000) := show (finA x).length ≤ 1000000 from Nat.le_trans (turnA_len _ _) (by decide)
  have HSZ : Hid _ := hsz
  have HCN : Hid _ := hcnt
  have HLB : Hid _ := ha.lastB
  obtain ⟨p4, hp4⟩ : ∃ p, p = w.heap.size := ⟨_, rfl⟩
  have HP4 : Hid (∀ k, has (pES K hK s pb mb cb x g r R) k → k < p4) := show ∀ k, has (pES K hK s pb mb cb x g r R) k → k < p4 from fun k hk => by rw [hp4]; exact (h.h.typ hk).2
  have HPM : Hid (¬ mown mb cb p4) := show ¬ mown mb cb p4 from fun e => by have := HP4.out p4 (by unfold pES; rw [has_cons, has_cons, has_cons]; exact .inr (.inr (.inl e))); omega
  have HPR : Hid (¬ rown g p4) := show ¬ rown g p4 from fun e => by have := HP4.out p4 (by unfold pES; rw [has_cons, has_cons, has_cons, has_cons]; exact .inr (.inr (.inr (.inl e)))); omega
  have hbW : Below w.heap.size w (w.alloc (.cells #[.int .i64 who, .int .i64 6, .int .i64 lim, .int .i64 rts, .int .i64 hld, .bool all, .bool true, .int .i64 frm, .int .i64 a, .int .i64 b, .int .i64 c, .int .i64 d] 78)) := (Below.refl _ _).alloc (Nat.le_refl _) _
  have HS0 : Hid (AS own0 w0 (pES K hK s pb mb cb x g r R) (w.alloc (.cells #[.int .i64 who, .int .i64 6, .int .i64 lim, .int .i64 rts, .int .i64 hld, .bool all, .bool true, .int .i64 frm, .int .i64 a, .int .i64 b, .int .i64 c, .int .i64 d] 78))) := h.more hbW
  have HB0 : Hid (Blk (w.alloc (.cells #[.int .i64 who, .int .i64 6, .int .i64 lim, .int .i64 rts, .int .i64 hld, .bool all, .bool true, .int .i64 frm, .int .i64 a, .int .i64 b, .int .i64 c, .int .i64 d] 78)) p4 #[.int .i64 who, .int .i64 6, .int .i64 lim, .int .i64 rts, .int .i64 hld, .bool all, .bool true, .int .i64 frm, .int .i64 a, .int .i64 b, .int .i64 c, .int .i64 d] 78) := show Blk _ _ _ _ from by rw [hp4]; exact heap_alloc_new w _
  have hlt4 : p4 < (w.alloc (.cells #[.int .i64 who, .int .i64 6, .int .i64 lim, .int .i64 rts, .int .i64 hld, .bool all, .bool true, .int .i64 frm, .int .i64 a, .int .i64 b, .int .i64 c, .int .i64 d] 78)).heap.size := HB0.out.lt
  have HOW : Hid (∀ W, AS own0 w0 (pES K hK s pb mb cb x g r R) W → Calls Try.prog 46 #[.pointer (some ⟨g.rb, 0, none⟩)] W fun e w' => e = .returned (epV ⟨er, ek⟩) ∧ Below W.heap.size W w') := fun W hW => by rw [← hE]; exact rown_any W (pES.rm hW) ha hx
  have HW0 : Hid (w0.heap.size ≤ p4) := show w0.heap.size ≤ p4 from by rw [hp4]; exact h.chg.size
  clear h ha hx hsz hcnt hbW hE
  unfold epV at *
  go_enter Try.func27, Try.ntmps27
  go_upto_region 1 with fail
  try rw [← hp4]
  clear hp4
  generalize w.alloc (.cells #[.int .i64 who, .int .i64 6, .int .i64 lim, .int .i64 rts, .int .i64 hld, .bool all, .bool true, .int .i64 frm, .int .i64 a, .int .i64 b, .int .i64 c, .int .i64 d] 78) = W0 at *
  have hq6 : W0.cell? ⟨p4, 6, none⟩ = some (.bool true) := HB0.out.cell 6
  obtain ⟨c0, c1⟩ := pES.cl HS0.out
  go_upto_region 3 with (first
    | (go_at_call 46; refine Calls.mono (HOW.out _ HS0.out) ?_; rintro e w1 ⟨rfl, hb1⟩; have hB1 := Blk.up (w := W0) HB0.out hb1; have s8 := hB1.cell 8; have s9 := hB1.cell 9; have f8 := hB1.frozen 8; have f9 := hB1.frozen 9; clear hB1)
    | fail)
  have hc1 : Chg (fun k => k = p4) w1 ((w1.setCell ⟨p4, 8, none⟩ (.int .i64 er)).setCell ⟨p4, 9, none⟩ (.int .i64 ek)) := (setCell_chg _ _ _ _).trans (setCell_chg _ _ _ _) (fun _ _ e => e)
  have HB4 : Hid (Blk ((w1.setCell ⟨p4, 8, none⟩ (.int .i64 er)).setCell ⟨p4, 9, none⟩ (.int .i64 ek)) p4 #[.int .i64 who, .int .i64 6, .int .i64 lim, .int .i64 rts, .int .i64 hld, .bool all, .bool true, .int .i64 frm, .int .i64 er, .int .i64 ek, .int .i64 c, .int .i64 d] 78) := show Blk _ _ _ _ from ((Blk.up (w := W0) HB0.out hb1).set 8 _).set 9 _
  have HS : Hid (AS own0 w0 (pES K hK s pb mb cb x g r R) ((w1.setCell ⟨p4, 8, none⟩ (.int .i64 er)).setCell ⟨p4, 9, none⟩ (.int .i64 ek))) := show AS _ _ _ _ from by
    have h1 := HS0.out.more hb1
    exact ⟨h1.h.chg hc1 (fun k hk e => by have := HP4.out k hk; omega), h1.chg.trans hc1 (fun k hk e => by
      have h2 := HW0.out; omega), h1.new⟩
  generalize (w1.setCell ⟨p4, 8, none⟩ (.int .i64 er)).setCell ⟨p4, 9, none⟩ (.int .i64 ek) = W at *
  clear hc1 hb1 s8 s9 f8 f9 hq6 c0 c1 HOW
  have q1 : W.cell? ⟨p4, 1, none⟩ = some (.int .i64 6) := HB4.out.cell 1
  have hlt4W : p4 < W.heap.size := HB4.out.lt
  clear HS0 HB0 hlt4
  obtain ⟨c0, c1⟩ := pES.cl HS.out
  go_upto_region 26 with (first
    | (go_at_call 44; refine Calls.mono (finish_any _ (pES.mm HS.out) HX.out) ?_; rintro e w3 ⟨v1, rfl, ho1, hm1, hc1⟩; have HSA : Hid (AS own0 w0 (rowE L 56 6 v1 (finA x).length (flatA (finA x)) :: pES K hK s pb mb cb (finX x) g r R) w3) := pES.step HS.out ho1 hm1 hc1; obtain ⟨c0, c1⟩ := pES.cl HSA.out.drop)
    | (go_at_call 52; refine Calls.mono (rfin_any _ (pES.rm HSA.out.drop) HA.out HX.out (by have := HSZ.out; unfold RV.sz at this; omega)) ?_; rintro e w9 ⟨v2, rfl, ho2, g5, hm5, hs5⟩; have HSR : Hid (AS own0 w0 (rowE L 56 6 v1 (finA x).length (flatA (finA x)) :: pES K hK s pb mb cb (finX x) g5 (finR x r) R) w9) := pES.ref (F := [rowE L 56 6 v1 (finA x).length (flatA (finA x))]) HSA.out hm5 hs5; have HO2 : Hid _ := ho2)
    | fail)
  clear ho1 hm1 hc1 ho2 hm5 hs5 HSA HS c0 c1 q1
  go_wp2_with (first
    | (go_at_call 53; refine Calls.mono (same_any _ (show w9.ownsRow L 56 6 v1 _ _ from HSR.out.head) HO2.out) ?_; rintro e w6 ⟨rfl, hb6⟩; have HS6 : Hid _ := HSR.out.more hb6; clear hb6)
    | (go_at_call 54; refine Calls.mono (pES.putA HS6.out HLN.out (by have := HCN.out; omega)) ?_; rintro e w7 ⟨rfl, s7, hs7, hc7⟩; have HS7 : Hid _ := hs7; have HC7 : Hid _ := hc7; clear hs7 hc7)
    | (go_at_call 55; refine Calls.mono (looks_any w7 HS7.out HA2.out HX2.out (pES.lw HS7.out).1 (pES.lw HS7.out).2 (by have := HCN.out; have := HC7.out; omega)) ?_; rintro e w8 ⟨rfl, s8, hs8, hc8⟩; have HS8 : Hid _ := hs8; have HC8 : Hid _ := hc8; clear hs8 hc8)
    | fail)
  go_ret
  exact ⟨rfl, s8, _, HS8.out, by have := HC7.out; have := HC8.out; omega⟩
end Go.Proofs.Ytjojhhkbebddmaa
