import Derived.Test.YtkdndfdofhnagaaDoorJG
import Derived.Test.YtkdndfdofhnagaaDoorHold2
namespace Go.Proofs.YtkdndfdofhnagaaDoor
open Go.RowKit Go.PlainAid
set_option linter.unusedVariables false
set_option linter.unusedSimpArgs false
structure XS where
  s : LS
  left : List Hd
  told : List Hd
def xhit (now : Int) (x : XS) (h : Hd) : Bool := decide (h.du ≤ now) && x.s.tcode 2 h.am == 0
def xstep (now : Int) (x : XS) (h : Hd) : XS := bif xhit now x h then ⟨x.s.tnext 2 0 h.am, x.left, x.told ++ [h]⟩ else ⟨x.s, x.left ++ [h], x.told⟩
def xrun (now : Int) (s : LS) (L : List Hd) : XS := L.foldl (xstep now) ⟨s, [], []⟩
theorem xrun_take {now : Int} {s : LS} {L : List Hd} {i : Nat} {h : Hd} (hi : L[i]? = some h) : xrun now s (L.take (i + 1)) = xstep now (xrun now s (L.take i)) h := by
  rw [List.take_add_one, hi]
  simp [xrun]
theorem xrun_all {now : Int} {s : LS} {L : List Hd} {i : Nat} (hi : L.length ≤ i) : xrun now s (L.take i) = xrun now s L := by rw [List.take_of_length_le hi]
theorem xstep_sub {now : Int} {x : XS} {h : Hd} : (xstep now x h).left.Sublist (x.left ++ [h]) := by
  unfold xstep
  cases xhit now x h
  · exact List.Sublist.refl _
  · exact List.sublist_append_left _ _
theorem xfold_sub {now : Int} : ∀ (L : List Hd) (x : XS), (L.foldl (xstep now) x).left.Sublist (x.left ++ L)
  | [], x => by simp
  | h :: t, x => by
    have := xfold_sub (now := now) t (xstep now x h)
    refine this.trans ?_
    have h2 := (xstep_sub (now := now) (x := x) (h := h)).append (List.Sublist.refl t)
    simpa using h2
theorem xrun_sub (now : Int) (s : LS) (L : List Hd) : (xrun now s L).left.Sublist L := by
  have := xfold_sub (now := now) L ⟨s, [], []⟩
  rw [List.nil_append] at this
  exact this
theorem xfold_len {now : Int} : ∀ (L : List Hd) (x : XS), (L.foldl (xstep now) x).told.length ≤ x.told.length + L.length
  | [], x => by simp
  | h :: t, x => by
    have := xfold_len (now := now) t (xstep now x h)
    have h2 : (xstep now x h).told.length ≤ x.told.length + 1 := by unfold xstep; cases xhit now x h <;> simp
    simp only [List.foldl_cons, List.length_cons]
    omega
theorem xrun_len (now : Int) (s : LS) (L : List Hd) : (xrun now s L).told.length ≤ L.length := by
  have := xfold_len (now := now) L ⟨s, [], []⟩
  simp only [List.length_nil, Nat.zero_add] at this
  exact this
theorem xfold_ok {now : Int} : ∀ (L : List Hd) (x : XS), x.s.Ok → (L.foldl (xstep now) x).s.Ok
  | [], x, h => h
  | a :: t, x, h => by
    refine xfold_ok t _ ?_
    unfold xstep
    cases xhit now x a
    · exact h
    · exact LS.tnext_ok _ h 2 0 (by decide) (by decide) (by decide) _
theorem xrun_ok (now : Int) (s : LS) (L : List Hd) (h : s.Ok) : (xrun now s L).s.Ok := xfold_ok L _ h
theorem look_mem : ∀ {L : List Hd} {x : Hd}, L.Pairwise (fun x y => x.k < y.k) → x ∈ L → look x.k L = some x
  | [], x, _, h => by simp at h
  | a :: t, x, hp, h => by
    obtain ⟨h1, h2⟩ := List.pairwise_cons.1 hp
    rcases List.mem_cons.1 h with rfl | h3
    · simp [look]
    · have : (x.k == a.k) = false := by have := h1 x h3; simp; omega
      have ih := look_mem h2 h3
      unfold look at ih ⊢
      simp only [List.find?_cons, this]
      exact ih
theorem rm_mid {A B : List Hd} {x : Hd} (h : ∀ y ∈ A, y.k < x.k) : rm x.k (A ++ x :: B) = A ++ B := by
  unfold rm
  rw [List.eraseP_append_right]
  · simp
  · intro y hy
    have := h y hy
    simp
    omega
theorem drop_cons {L : List Hd} {i : Nat} {h : Hd} (hi : L[i]? = some h) : L.drop i = h :: L.drop (i + 1) := by
  obtain ⟨hl, rfl⟩ := List.getElem?_eq_some_iff.1 hi
  exact List.drop_eq_getElem_cons hl
/-- What is there in the middle of the expiring: those that stay and those to come. -/
def BS.mid (b : BS) (now : Int) (s : LS) (i : Nat) : BS := { b with L := (xrun now s (b.L.take i)).left ++ b.L.drop i }
theorem mid_sub (b : BS) (now : Int) (s : LS) (i : Nat) : (b.mid now s i).L.Sublist b.L := by
  have h := (xrun_sub now s (b.L.take i)).append (List.Sublist.refl (b.L.drop i))
  rwa [List.take_append_drop] at h
theorem mid_0 (b : BS) (now : Int) (s : LS) : b.mid now s 0 = b := by simp [BS.mid, xrun]
theorem mid_all (b : BS) (now : Int) (s : LS) {i : Nat} (hi : b.L.length ≤ i) : b.mid now s i = { b with L := (xrun now s b.L).left } := by simp [BS.mid, xrun_all hi, List.drop_of_length_le hi]
theorem mid_keep {b : BS} {now : Int} {s : LS} {i : Nat} {h : Hd} (hi : b.L[i]? = some h) (hx : xhit now (xrun now s (b.L.take i)) h = false) : b.mid now s (i + 1) = b.mid now s i := by
  simp [BS.mid, xrun_take hi, xstep, hx, drop_cons hi]
theorem mid_look {b : BS} (hk : b.Ok) {now : Int} {s : LS} {i : Nat} {h : Hd} (hi : b.L[i]? = some h) : look h.k (b.mid now s i).L = some h := by
  refine look_mem (hk.keys.sublist (mid_sub b now s i)) ?_
  simp [BS.mid, drop_cons hi]
theorem mid_rm {b : BS} (hk : b.Ok) {now : Int} {s : LS} {i : Nat} {h : Hd} (hi : b.L[i]? = some h) (hx : xhit now (xrun now s (b.L.take i)) h = true) : { b.mid now s i with L := rm h.k (b.mid now s i).L } = b.mid now s (i + 1) := by
  have hlt : ∀ y ∈ (xrun now s (b.L.take i)).left, y.k < h.k := fun y hy => by
    have h1 := (xrun_sub now s (b.L.take i)).subset hy
    have h2 := hk.keys
    rw [← List.take_append_drop i b.L, drop_cons hi] at h2
    exact (List.pairwise_append.1 h2).2.2 y h1 h (by simp)
  simp [BS.mid, xrun_take hi, xstep, hx, drop_cons hi, rm_mid hlt]
theorem num_mod {m k : Int} (h0 : 0 ≤ m) (h1 : m < 16) : (k * 16 + m) % 16 = m ∧ (k * 16 + m) / 16 = k := by omega
structure ExR (S : Sens) (Lm hb mb lb : Nat) (b : BS) (s : LS) (now : Int) (w wr : World) (vn : Value) (i : Nat) (v : Value) : Prop where
  bk : Bk hb mb (b.mid now s i) wr
  led : Blk wr lb (xrun now s (b.L.take i)).s.cs 71
  sen : Sen S Lm wr
  own : wr.ownsRow w.heap.size 3 1 v (xrun now s (b.L.take i)).told.length ((numsOf b.me (xrun now s (b.L.take i)).told).map I)
  nm : wr.ownsRow w.heap.size 3 1 vn b.L.length (b.nums.map I)
  ne : ∀ k, v.ownBlock = some k → vn.ownBlock ≠ some k
  chg : Chg (fun k => k = mb ∨ k = lb) w wr
  lm : Lm ≤ mb ∧ Lm ≤ lb ∧ Lm ≤ w.heap.size
section
variable {S : Sens} {Lm hb mb lb : Nat} {b : BS} {s : LS} {now : Int} {w wr w' : World} {vn v v' : Value} {i : Nat}
theorem ExR.below (h : ExR S Lm hb mb lb b s now w wr vn i v) (hb' : Below wr.heap.size wr w') : ExR S Lm hb mb lb b s now w w' vn i v := by
  have hlm : Lm ≤ wr.heap.size := Nat.le_trans h.lm.1 (Nat.le_of_lt h.bk.map.lt)
  exact ⟨h.bk.keep (Chg.ofBelow (fun _ => False) hb') (by simp) (by simp), h.led.below hb' h.led.lt, h.sen.below (hb'.mono hlm), ownsRow_same h.own (fun g hg => hb'.block g (ownsRow_lt h.own hg).2), ownsRow_same h.nm (fun g hg => hb'.block g (ownsRow_lt h.nm hg).2), h.ne, h.chg.trans (Chg.ofBelow (fun _ => False) hb') (by simp), h.lm⟩
theorem ExR.skip {h : Hd} (hE : ExR S Lm hb mb lb b s now w wr vn i v) (hi : b.L[i]? = some h) (hx : xhit now (xrun now s (b.L.take i)) h = false) : ExR S Lm hb mb lb b s now w wr vn (i + 1) v := by
  have e1 : (xrun now s (b.L.take (i + 1))).s = (xrun now s (b.L.take i)).s := by simp [xrun_take hi, xstep, hx]
  have e2 : (xrun now s (b.L.take (i + 1))).told = (xrun now s (b.L.take i)).told := by simp [xrun_take hi, xstep, hx]
  exact ⟨by rw [mid_keep hi hx]; exact hE.bk, by rw [e1]; exact hE.led, hE.sen, by rw [e2]; exact hE.own, hE.nm, hE.ne, hE.chg, hE.lm⟩
theorem ExR.rowne (h : ExR S Lm hb mb lb b s now w wr vn i v) {u : Value} {n : Nat} {xs : List Value} (ho : wr.ownsRow w.heap.size 3 1 u n xs) : u.ownBlock ≠ some mb ∧ u.ownBlock ≠ some lb ∧ u.ownBlock ≠ some hb := by
  refine ⟨fun e => ?_, fun e => ?_, fun e => ?_⟩
  · obtain ⟨cur, h1⟩ := ownsRow_type ho e
    exact Blk.ne_m h1 h.bk.map rfl
  · obtain ⟨cur, h1⟩ := ownsRow_type ho e
    exact Blk.ne_t h1 h.led (by decide) rfl
  · obtain ⟨cur, h1⟩ := ownsRow_type ho e
    exact Blk.ne_t h1 h.bk.blk (by decide) rfl
/-- Behind a release that the ledger took: the hold is gone. -/
theorem ExR.gone {h : Hd} (hE : ExR S Lm hb mb lb b s now w wr vn i v) (hk : b.Ok) (hi : b.L[i]? = some h) (hx : xhit now (xrun now s (b.L.take i)) h = true) (hc : Chg (fun k => k = mb ∨ k = lb) wr w') (hB : Bk hb mb { b.mid now s i with L := rm h.k (b.mid now s i).L } w') (hl : Blk w' lb ((xrun now s (b.L.take i)).s.tnext 2 0 h.am).cs 71) :
    (w'.ownsRow w.heap.size 3 1 v (xrun now s (b.L.take i)).told.length ((numsOf b.me (xrun now s (b.L.take i)).told).map I)) ∧ w.heap.size ≤ w'.heap.size ∧
    ∀ w4 v', w4.ownsRow w.heap.size 3 1 v' ((xrun now s (b.L.take i)).told.length + 1) ((numsOf b.me (xrun now s (b.L.take i)).told ++ [h.k * 16 + b.me]).map I) → Grew w' w4 v v' → ExR S Lm hb mb lb b s now w w4 vn (i + 1) v' := by
  have hlm : Lm ≤ wr.heap.size := Nat.le_trans hE.lm.1 (Nat.le_of_lt hE.bk.map.lt)
  have ho' : w'.ownsRow w.heap.size 3 1 v _ _ := ownsRow_same hE.own (fun g hg => hc.block g (ownsRow_lt hE.own hg).2 (fun e => by rcases e with rfl | rfl; exact (hE.rowne hE.own).1 hg; exact (hE.rowne hE.own).2.1 hg))
  have hn' : w'.ownsRow w.heap.size 3 1 vn _ _ := ownsRow_same hE.nm (fun g hg => hc.block g (ownsRow_lt hE.nm hg).2 (fun e => by rcases e with rfl | rfl; exact (hE.rowne hE.nm).1 hg; exact (hE.rowne hE.nm).2.1 hg))
  have hS' := hE.sen.below (hc.below hlm (fun k e => by rcases e with rfl | rfl; exact hE.lm.1; exact hE.lm.2.1))
  have hsz := Nat.le_trans hE.chg.size hc.size
  refine ⟨ho', hsz, fun w4 v' h4 hg => ?_⟩
  have hcg := hg.chg
  have n1 : ¬ v.ownBlock = some hb := (hE.rowne hE.own).2.2
  have n2 : ¬ v.ownBlock = some mb := (hE.rowne hE.own).1
  have n3 : ¬ v.ownBlock = some lb := (hE.rowne hE.own).2.1
  have e1 : (xrun now s (b.L.take (i + 1))).s = (xrun now s (b.L.take i)).s.tnext 2 0 h.am := by simp [xrun_take hi, xstep, hx]
  have e2 : (xrun now s (b.L.take (i + 1))).told = (xrun now s (b.L.take i)).told ++ [h] := by simp [xrun_take hi, xstep, hx]
  refine ⟨by rw [← mid_rm hk hi hx]; exact hB.keep hcg n1 n2, by rw [e1]; exact hcg.blk hl n3, hS'.below (hcg.below (Nat.le_trans hlm hc.size) (fun k e => Nat.le_trans hE.lm.2.2 (ownsRow_lt ho' e).1)), by rw [e2]; simpa [numsOf] using h4, ownsRow_same hn' (fun g hgg => hcg.block g (ownsRow_lt hn' hgg).2 (fun e => hE.ne g e hgg)), fun k hk' hvn => ?_, (hE.chg.trans hc (fun _ _ e => e)).trans hcg (fun j hj e => by have := (ownsRow_lt ho' e).1; omega), hE.lm⟩
  rcases hg.at' k hk' with h5 | h5
  · exact hE.ne k h5 hvn
  · have := (ownsRow_lt hn' hvn).2
    omega
/-- Behind a release that the ledger refused: all stays. -/
theorem ExR.stay {h : Hd} (hE : ExR S Lm hb mb lb b s now w wr vn i v) (hi : b.L[i]? = some h) (hx : xhit now (xrun now s (b.L.take i)) h = false) (hc : Chg (fun k => k = mb ∨ k = lb) wr w') (hB : Bk hb mb (b.mid now s i) w') (hl : Blk w' lb (xrun now s (b.L.take i)).s.cs 71) : ExR S Lm hb mb lb b s now w w' vn (i + 1) v := by
  have hlm : Lm ≤ wr.heap.size := Nat.le_trans hE.lm.1 (Nat.le_of_lt hE.bk.map.lt)
  refine ExR.skip ⟨hB, hl, hE.sen.below (hc.below hlm (fun k e => by rcases e with rfl | rfl; exact hE.lm.1; exact hE.lm.2.1)), ownsRow_same hE.own (fun g hg => hc.block g (ownsRow_lt hE.own hg).2 (fun e => by rcases e with rfl | rfl; exact (hE.rowne hE.own).1 hg; exact (hE.rowne hE.own).2.1 hg)), ownsRow_same hE.nm (fun g hg => hc.block g (ownsRow_lt hE.nm hg).2 (fun e => by rcases e with rfl | rfl; exact (hE.rowne hE.nm).1 hg; exact (hE.rowne hE.nm).2.1 hg)), hE.ne, hE.chg.trans hc (fun _ _ e => e), hE.lm⟩ hi hx
end
end Go.Proofs.YtkdndfdofhnagaaDoor
namespace Go.Proofs.YtkdndfdofhnagaaDoor
open Go.RowKit Go.PlainAid
set_option linter.unusedVariables false
set_option linter.unusedSimpArgs false
def ExE (S : Sens) (Lm hb mb lb : Nat) (b : BS) (s : LS) (now : Int) (w wr : World) (vn : Value) (i : Nat) (v : Value) : Prop := ExR S Lm hb mb lb b s now w wr vn i v
theorem field80 (a d : Int) (w : World) : (Instr.field 80 (.agg #[.int .i64 a, .int .i64 d]) 1).run Tryd.prog w = .ok (.int .i64 d) w := by kernel_rfl
set_option maxRecDepth 100000 in
set_option maxHeartbeats 3200000 in
theorem expire_any {S : Sens} {Lm hb mb lb : Nat} {b : BS} {s : LS} (w : World) (hS : Sen S Lm w) (hB : Bk hb mb b w) (hk : b.Ok) (h : Blk w lb s.cs 71) (ho : s.Ok) (hL : Lm ≤ lb) (hLm : Lm ≤ mb) (hmade : b.made ≤ 1000001) (now : Int) :
    Calls Tryd.prog 23 #[.pointer (some ⟨hb, 0, none⟩), .pointer (some ⟨lb, 0, none⟩), .int .i64 now] w fun r w' => ∃ v, r = .returned v ∧ w'.ownsRow w.heap.size 3 1 v (xrun now s b.L).told.length ((numsOf b.me (xrun now s b.L).told).map I) ∧ Bk hb mb { b with L := (xrun now s b.L).left } w' ∧ Blk w' lb (xrun now s b.L).s.cs 71 ∧ Chg (fun k => k = mb ∨ k = lb) w w' := by
  have hLw : Lm ≤ w.heap.size := Nat.le_of_lt (Nat.lt_of_le_of_lt hL h.lt)
  have hnm := numbers_any w hB hk hmade
  have hmk : ∀ (w1 : World) (vn : Value), w1.ownsRow w.heap.size 3 1 vn b.L.length (b.nums.map I) → Below w.heap.size w w1 → ExR S Lm hb mb lb b s now w w1 vn 0 (.slice none 0 0) := fun w1 vn h1 h2 => by
    refine ⟨by rw [mid_0]; exact hB.keep (Chg.ofBelow (fun _ => False) h2) (by simp) (by simp), h.below h2 h.lt, hS.below (h2.mono hLw), World.ownsRow_nil _ _ _ _, h1, fun k e => (by cases e), Chg.ofBelow _ h2, hLm, hL, hLw⟩
  have HMK : Hid _ := hmk
  have HK : Hid _ := hk
  have HO : Hid _ := ho
  have HLE : Hid _ := (show b.L.length ≤ 16 from by have := hk.len; have := hk.r1; omega)
  have HNM : Hid _ := hnm
  clear hmk hk ho hnm hS hB h hL hLm hLw
  go_enter Tryd.func23, Tryd.ntmps23
  go_wp2_with fail
  refine Calls.mono HNM.out ?_
  rintro e w1 ⟨vn, rfl, ho1, hb1⟩
  have H0 : Hid _ := HMK.out w1 vn ho1 hb1
  obtain ⟨ao, cap, rfl, hc1, hc2, hjunk⟩ := own_read ho1
  clear ho1 hb1 HMK HNM hjunk
  go_wp2_with fail
  go_loopw [7, 15] (fun v j wr => ∃ i : Nat, j = .int .i64 i ∧ i ≤ b.L.length ∧ ExE S Lm hb mb lb b s now w wr (.slice ao b.L.length cap) i v) (fun _ j _ => b.L.length - (intOf j).toNat)
  case atStart => exact ⟨0, rfl, Nat.zero_le _, H0.out⟩
  case round =>
    obtain ⟨i, rfl, hi, hE⟩ := hrel
    unfold ExE at hE
    have hle := HLE.out
    by_cases hlt : i < b.L.length
    · obtain ⟨x, hx⟩ : ∃ x, b.L[i]? = some x := ⟨b.L[i]'hlt, List.getElem?_eq_getElem _⟩
      obtain ⟨ao2, cap2, hv2, hjk1, hjk2, hcell⟩ := own_read hE.nm
      cases hv2
      obtain ⟨g, rfl, hjk3, hjk4, hcc⟩ := hcell (by omega)
      have hcx : wr.cell? ⟨g, i, none⟩ = some (.int .i64 (x.k * 16 + b.me)) := hcc i _ (by simp [BS.nums, numsOf, hx, I])
      have hm := HK.out.each x (List.mem_of_getElem? hx)
      have hme := HK.out.me0
      have hme1 := HK.out.me1
      have hwn : IntKind.i64.wrap (x.k * 16 + b.me) = x.k * 16 + b.me := by rw [IntKind.wrap_i64]; omega
      have hmod := num_mod (k := x.k) hme hme1
      have hlk := mid_look HK.out (now := now) (s := s) hx
      have HX : Hid _ := hx
      have HE : Hid _ := hE
      have HMO : Hid _ := hmod
      have HLK : Hid _ := hlk
      have HWN : Hid _ := hwn
      clear hcell hcc hE hm hme hme1 hjk1 hjk2 hjk3 hjk4
      by_cases hdue : now < x.du
      · clear hmod hlk hwn
        go_wp2_with fail
        have hwn := HWN.out
        have hmod := HMO.out
        have hlk := HLK.out
        rename_i K hK
        try rw [show ∀ a : Act, a.put none undef = a from fun _ => rfl]
        refine wp_region_mix (fun wr' => HMap wr' mb b.me (b.mid now s i).L ∧ wr'.cell? ⟨hb, 3, none⟩ = some (.map (some mb))) (fun i => i == 5 || i == 10) 10 (by kernel_rfl) rfl (by kernel_rfl) (by kernel_rfl) (by kernel_rfl) ?_
        have hX : ExR S Lm hb mb lb b s now w ({ wr with drawn := wr.drawn + 1 } : World) (.slice (some ⟨g, 0, none⟩) b.L.length cap) i u7 := HE.out.below ⟨rfl, rfl, rfl, Nat.le_refl _, fun _ _ => rfl⟩
        generalize ({ wr with drawn := wr.drawn + 1 } : World) = X at *
        have hC : HMap X mb b.me (b.mid now s i).L ∧ X.cell? ⟨hb, 3, none⟩ = some (.map (some mb)) := ⟨hX.bk.map, hX.bk.c3⟩
        refine withFrP (N := 44) rfl ?_
        intro f0 F0 hff
        have hs0 : f0 0 = Value.pointer (some ⟨hb, 0, none⟩) := hff 0
        have hs2 : f0 2 = Value.int .i64 now := hff 2
        have hs9 : f0 9 = Value.int .i64 (x.k * 16 + b.me) := hff 9
        clear hff
        refine lyp F0 rfl hC rfl (by omega) (wanted_none rfl) (v := Value.pointer (some ⟨hb, 0, none⟩)) (fun wr hwr => by simp only [execOp, (F0.eval 0 (by omega)).trans (show _ = Value.pointer (some ⟨hb, 0, none⟩) from by simp [upd, hs0, hs2, hs9])]; first | rfl | simp [go_sem]) fun F1 => ?_
        refine lyp F1 rfl hC rfl (by omega) (wanted_none rfl) (v := Value.pointer (some ⟨hb, 0, none⟩)) (fun wr hwr => by simp only [execOp, (F1.eval 19 (by omega)).trans (show _ = Value.pointer (some ⟨hb, 0, none⟩) from by simp [upd, hs0, hs2, hs9])]; simp [go_sem]) fun F2 => ?_
        refine lyp F2 rfl hC rfl (by omega) (wanted_none rfl) (v := Value.pointer (some ⟨hb, 3, none⟩)) (fun wr hwr => by simp only [execOp, (F2.eval 20 (by omega)).trans (show _ = Value.pointer (some ⟨hb, 0, none⟩) from by simp [upd, hs0, hs2, hs9])]; simp [go_sem]) fun F3 => ?_
        refine lyp F3 rfl hC rfl (by omega) (wanted_none rfl) (v := Value.map (some mb)) (fun wr hwr => by simp only [execOp, (F3.eval 21 (by omega)).trans (show _ = Value.pointer (some ⟨hb, 3, none⟩) from by simp [upd, hs0, hs2, hs9])]; simp [go_sem, hwr.2]) fun F4 => ?_
        refine lyp F4 rfl hC rfl (by omega) (wanted_none rfl) (v := Value.int .i64 (x.k * 16 + b.me)) (fun wr hwr => by simp only [execOp, (F4.eval 9 (by omega)).trans (show _ = Value.int .i64 (x.k * 16 + b.me) from by simp [upd, hs0, hs2, hs9])]; first | rfl | simp [go_sem]) fun F5 => ?_
        refine lcp F5 rfl hC rfl (by omega) (wanted_none rfl) (g := 41) (args := #[Value.int .i64 (x.k * 16 + b.me)]) (by simp only [execOp, resolve, invoke, List.map_toArray, List.map_cons, List.map_nil, (F5.eval 23 (by omega)).trans (show _ = Value.int .i64 (x.k * 16 + b.me) from by simp [upd, hs0, hs2, hs9])]; simp [go_sem, Act.eval]) (placeOf_any (x.k * 16 + b.me) X hwn) ?_
        rintro e1 w1 ⟨rfl, hb1⟩
        have hX1 := hX.below hb1
        have hC1 : HMap w1 mb b.me (b.mid now s i).L ∧ w1.cell? ⟨hb, 3, none⟩ = some (.map (some mb)) := ⟨hX1.bk.map, hX1.bk.c3⟩
        rw [hmod.1, hmod.2]
        refine ⟨_, rfl, fun F6 => ?_⟩
        refine lyp F6 rfl hC1 rfl (by omega) (wanted_none rfl) (v := holdV x.am x.du) (fun wr hwr => by simp only [execOp, (F6.eval 22 (by omega)).trans (show _ = Value.map (some mb) from by simp [upd, hs0, hs2, hs9]), (F6.eval 24 (by omega)).trans (show _ = keyV b.me x.k from by simp [upd, hs0, hs2, hs9])]; simp [go_sem, hwr.1.look_ok x.k false, hlk]) fun F7 => ?_
        refine lyp F7 rfl hC1 rfl (by omega) (wanted_none rfl) (v := Value.int .i64 x.du) (fun wr hwr => by simp only [execOp, (F7.eval 25 (by omega)).trans (show _ = holdV x.am x.du from by simp [upd, hs0, hs2, hs9])]; simp [go_sem, holdV, field80]) fun F8 => ?_
        refine lyp F8 rfl hC1 rfl (by omega) (wanted_none rfl) (v := Value.int .i64 now) (fun wr hwr => by simp only [execOp, (F8.eval 2 (by omega)).trans (show _ = Value.int .i64 now from by simp [upd, hs0, hs2, hs9])]; first | rfl | simp [go_sem]) fun F9 => ?_
        refine lyp F9 rfl hC1 rfl (by omega) (wanted_none rfl) (v := Value.bool true) (fun wr hwr => by simp only [execOp, (F9.eval 26 (by omega)).trans (show _ = Value.int .i64 x.du from by simp [upd, hs0, hs2, hs9]), (F9.eval 27 (by omega)).trans (show _ = Value.int .i64 now from by simp [upd, hs0, hs2, hs9])]; simp [go_sem, Act.eval, hdue]) fun F10 => ?_
        refine ⟨fun _ => hC1, ?_⟩
        refine hK _ _ ?_
        clear F0 F1 F2 F3 F4 F5 F6 F7 F8 F9 F10 hs0 hs2 hs9 hC hC1
        simp only [Act.put, List.setIfInBounds_toArray, List.set_cons_succ, List.set_cons_zero]
        have HX1 : Hid _ := hX1
        clear hK hX hb1 hX1
        clear hwn hmod hlk
        have HS2 : Hid _ := HX1.out.skip HX.out (by simp [xhit]; omega)
        go_wp2_with fail
        go_roundw
        case rel => exact ⟨i + 1, by go_num, by omega, HS2.out⟩
        case measure => simp [intOf]; omega
      · have hdue' : x.du ≤ now := by omega
        by_cases hc : (xrun now s (b.L.take i)).s.tcode 2 x.am = 0
        · clear hmod hlk hwn
          have HHIT : Hid _ := (show xhit now (xrun now s (b.L.take i)) x = true from by simp [xhit, hdue', hc])
          have HC : Hid _ := hc
          clear hc
          go_wp2_with fail
          have hwn := HWN.out
          have hmod := HMO.out
          have hlk := HLK.out
          rename_i K hK
          try rw [show ∀ a : Act, a.put none undef = a from fun _ => rfl]
          refine wp_region_mix (fun wr' => HMap wr' mb b.me (b.mid now s i).L ∧ wr'.cell? ⟨hb, 3, none⟩ = some (.map (some mb))) (fun i => i == 5 || i == 10) 10 (by kernel_rfl) rfl (by kernel_rfl) (by kernel_rfl) (by kernel_rfl) ?_
          have hX : ExR S Lm hb mb lb b s now w ({ wr with drawn := wr.drawn + 1 } : World) (.slice (some ⟨g, 0, none⟩) b.L.length cap) i u7 := HE.out.below ⟨rfl, rfl, rfl, Nat.le_refl _, fun _ _ => rfl⟩
          generalize ({ wr with drawn := wr.drawn + 1 } : World) = X at *
          have hC : HMap X mb b.me (b.mid now s i).L ∧ X.cell? ⟨hb, 3, none⟩ = some (.map (some mb)) := ⟨hX.bk.map, hX.bk.c3⟩
          refine withFrP (N := 44) rfl ?_
          intro f0 F0 hff
          have hs0 : f0 0 = Value.pointer (some ⟨hb, 0, none⟩) := hff 0
          have hs2 : f0 2 = Value.int .i64 now := hff 2
          have hs9 : f0 9 = Value.int .i64 (x.k * 16 + b.me) := hff 9
          clear hff
          refine lyp F0 rfl hC rfl (by omega) (wanted_none rfl) (v := Value.pointer (some ⟨hb, 0, none⟩)) (fun wr hwr => by simp only [execOp, (F0.eval 0 (by omega)).trans (show _ = Value.pointer (some ⟨hb, 0, none⟩) from by simp [upd, hs0, hs2, hs9])]; first | rfl | simp [go_sem]) fun F1 => ?_
          refine lyp F1 rfl hC rfl (by omega) (wanted_none rfl) (v := Value.pointer (some ⟨hb, 0, none⟩)) (fun wr hwr => by simp only [execOp, (F1.eval 19 (by omega)).trans (show _ = Value.pointer (some ⟨hb, 0, none⟩) from by simp [upd, hs0, hs2, hs9])]; simp [go_sem]) fun F2 => ?_
          refine lyp F2 rfl hC rfl (by omega) (wanted_none rfl) (v := Value.pointer (some ⟨hb, 3, none⟩)) (fun wr hwr => by simp only [execOp, (F2.eval 20 (by omega)).trans (show _ = Value.pointer (some ⟨hb, 0, none⟩) from by simp [upd, hs0, hs2, hs9])]; simp [go_sem]) fun F3 => ?_
          refine lyp F3 rfl hC rfl (by omega) (wanted_none rfl) (v := Value.map (some mb)) (fun wr hwr => by simp only [execOp, (F3.eval 21 (by omega)).trans (show _ = Value.pointer (some ⟨hb, 3, none⟩) from by simp [upd, hs0, hs2, hs9])]; simp [go_sem, hwr.2]) fun F4 => ?_
          refine lyp F4 rfl hC rfl (by omega) (wanted_none rfl) (v := Value.int .i64 (x.k * 16 + b.me)) (fun wr hwr => by simp only [execOp, (F4.eval 9 (by omega)).trans (show _ = Value.int .i64 (x.k * 16 + b.me) from by simp [upd, hs0, hs2, hs9])]; first | rfl | simp [go_sem]) fun F5 => ?_
          refine lcp F5 rfl hC rfl (by omega) (wanted_none rfl) (g := 41) (args := #[Value.int .i64 (x.k * 16 + b.me)]) (by simp only [execOp, resolve, invoke, List.map_toArray, List.map_cons, List.map_nil, (F5.eval 23 (by omega)).trans (show _ = Value.int .i64 (x.k * 16 + b.me) from by simp [upd, hs0, hs2, hs9])]; simp [go_sem, Act.eval]) (placeOf_any (x.k * 16 + b.me) X hwn) ?_
          rintro e1 w1 ⟨rfl, hb1⟩
          have hX1 := hX.below hb1
          have hC1 : HMap w1 mb b.me (b.mid now s i).L ∧ w1.cell? ⟨hb, 3, none⟩ = some (.map (some mb)) := ⟨hX1.bk.map, hX1.bk.c3⟩
          rw [hmod.1, hmod.2]
          refine ⟨_, rfl, fun F6 => ?_⟩
          refine lyp F6 rfl hC1 rfl (by omega) (wanted_none rfl) (v := holdV x.am x.du) (fun wr hwr => by simp only [execOp, (F6.eval 22 (by omega)).trans (show _ = Value.map (some mb) from by simp [upd, hs0, hs2, hs9]), (F6.eval 24 (by omega)).trans (show _ = keyV b.me x.k from by simp [upd, hs0, hs2, hs9])]; simp [go_sem, hwr.1.look_ok x.k false, hlk]) fun F7 => ?_
          refine lyp F7 rfl hC1 rfl (by omega) (wanted_none rfl) (v := Value.int .i64 x.du) (fun wr hwr => by simp only [execOp, (F7.eval 25 (by omega)).trans (show _ = holdV x.am x.du from by simp [upd, hs0, hs2, hs9])]; simp [go_sem, holdV, field80]) fun F8 => ?_
          refine lyp F8 rfl hC1 rfl (by omega) (wanted_none rfl) (v := Value.int .i64 now) (fun wr hwr => by simp only [execOp, (F8.eval 2 (by omega)).trans (show _ = Value.int .i64 now from by simp [upd, hs0, hs2, hs9])]; first | rfl | simp [go_sem]) fun F9 => ?_
          refine lyp F9 rfl hC1 rfl (by omega) (wanted_none rfl) (v := Value.bool false) (fun wr hwr => by simp only [execOp, (F9.eval 26 (by omega)).trans (show _ = Value.int .i64 x.du from by simp [upd, hs0, hs2, hs9]), (F9.eval 27 (by omega)).trans (show _ = Value.int .i64 now from by simp [upd, hs0, hs2, hs9])]; simp [go_sem, Act.eval, hdue]) fun F10 => ?_
          refine ⟨fun _ => hC1, ?_⟩
          refine hK _ _ ?_
          clear F0 F1 F2 F3 F4 F5 F6 F7 F8 F9 F10 hs0 hs2 hs9 hC hC1
          simp only [Act.put, List.setIfInBounds_toArray, List.set_cons_succ, List.set_cons_zero]
          have HX1 : Hid _ := hX1
          clear hK hX hb1 hX1
          have hE1 := HX1.out
          have hrl := release_any w1 hE1.sen hE1.bk hE1.led (xrun_ok now s _ HO.out) hE1.lm.2.1 (x.k * 16 + b.me) hwn
          have ec : (b.mid now s i).ecode (xrun now s (b.L.take i)).s (x.k * 16 + b.me) = 0 := by
            rw [BS.e_some (b.mid now s i) _ _ x hmod.1 (by rw [hmod.2]; exact hlk)]; exact HC.out
          have eh : (b.mid now s i).hit (x.k * 16 + b.me) = x := by simp [BS.hit, hmod.2, hlk]
          rw [show (b.mid now s i).eamt (xrun now s (b.L.take i)).s (x.k * 16 + b.me) = x.am by simp [BS.eamt, ec, eh], show (b.mid now s i).enext (xrun now s (b.L.take i)).s (x.k * 16 + b.me) = { b.mid now s i with L := rm x.k (b.mid now s i).L } by simp [BS.enext, ec, hmod.2], show (b.mid now s i).elnext (xrun now s (b.L.take i)).s 0 (x.k * 16 + b.me) = (xrun now s (b.L.take i)).s.tnext 2 0 x.am by simp [BS.elnext, ec, eh], ec] at hrl
          have HRL : Hid _ := hrl
          clear hwn hmod hlk hE1 hrl ec eh
          go_wp2_with fail
          refine Calls.mono HRL.out ?_
          rintro e w2 ⟨rfl, hB2, hl2, hc2'⟩
          obtain ⟨ho2, hsz2, hstep⟩ := HX1.out.gone HK.out HX.out HHIT.out hc2' hB2 hl2
          have htl := xrun_len now s (b.L.take i)
          have hD16 : (xrun now s (b.L.take i)).told.length + 1 ≤ 100000 := by
            have h5 : (b.L.take i).length ≤ b.L.length := by rw [List.length_take]; omega
            omega
          have HO2 : Hid _ := ho2
          have HST : Hid _ := hstep
          clear hB2 hl2 hc2' ho2 hstep htl
          go_wp2_with (first | (at_builtin; refine wpList_appI rfl _ _ rfl w.heap.size _ u7 _ rfl HO2.out (x.k * 16 + b.me) rfl (by simp) hD16 hsz2 ?_; intro v' w4 ho4 hg4 _))
          have HF : Hid _ := HST.out w4 v' ho4 hg4
          clear ho4 hg4
          go_wp2_with fail
          go_roundw
          case rel => exact ⟨i + 1, by go_num, by omega, HF.out⟩
          case measure => simp [intOf]; omega
        · clear hmod hlk hwn
          have hcf : ((xrun now s (b.L.take i)).s.tcode 2 x.am == 0) = false := by simpa using hc
          have HHIT : Hid _ := (show xhit now (xrun now s (b.L.take i)) x = false from by simp [xhit, hcf])
          have HTN : Hid _ := (show (xrun now s (b.L.take i)).s.tnext 2 0 x.am = (xrun now s (b.L.take i)).s from by simp [LS.tnext, hc])
          have HC : Hid _ := hcf
          clear hcf
          generalize hcd : (xrun now s (b.L.take i)).s.tcode 2 x.am = cd at *
          have HCD : Hid _ := hcd
          clear hcd
          go_wp2_with fail
          have hwn := HWN.out
          have hmod := HMO.out
          have hlk := HLK.out
          rename_i K hK
          try rw [show ∀ a : Act, a.put none undef = a from fun _ => rfl]
          refine wp_region_mix (fun wr' => HMap wr' mb b.me (b.mid now s i).L ∧ wr'.cell? ⟨hb, 3, none⟩ = some (.map (some mb))) (fun i => i == 5 || i == 10) 10 (by kernel_rfl) rfl (by kernel_rfl) (by kernel_rfl) (by kernel_rfl) ?_
          have hX : ExR S Lm hb mb lb b s now w ({ wr with drawn := wr.drawn + 1 } : World) (.slice (some ⟨g, 0, none⟩) b.L.length cap) i u7 := HE.out.below ⟨rfl, rfl, rfl, Nat.le_refl _, fun _ _ => rfl⟩
          generalize ({ wr with drawn := wr.drawn + 1 } : World) = X at *
          have hC : HMap X mb b.me (b.mid now s i).L ∧ X.cell? ⟨hb, 3, none⟩ = some (.map (some mb)) := ⟨hX.bk.map, hX.bk.c3⟩
          refine withFrP (N := 44) rfl ?_
          intro f0 F0 hff
          have hs0 : f0 0 = Value.pointer (some ⟨hb, 0, none⟩) := hff 0
          have hs2 : f0 2 = Value.int .i64 now := hff 2
          have hs9 : f0 9 = Value.int .i64 (x.k * 16 + b.me) := hff 9
          clear hff
          refine lyp F0 rfl hC rfl (by omega) (wanted_none rfl) (v := Value.pointer (some ⟨hb, 0, none⟩)) (fun wr hwr => by simp only [execOp, (F0.eval 0 (by omega)).trans (show _ = Value.pointer (some ⟨hb, 0, none⟩) from by simp [upd, hs0, hs2, hs9])]; first | rfl | simp [go_sem]) fun F1 => ?_
          refine lyp F1 rfl hC rfl (by omega) (wanted_none rfl) (v := Value.pointer (some ⟨hb, 0, none⟩)) (fun wr hwr => by simp only [execOp, (F1.eval 19 (by omega)).trans (show _ = Value.pointer (some ⟨hb, 0, none⟩) from by simp [upd, hs0, hs2, hs9])]; simp [go_sem]) fun F2 => ?_
          refine lyp F2 rfl hC rfl (by omega) (wanted_none rfl) (v := Value.pointer (some ⟨hb, 3, none⟩)) (fun wr hwr => by simp only [execOp, (F2.eval 20 (by omega)).trans (show _ = Value.pointer (some ⟨hb, 0, none⟩) from by simp [upd, hs0, hs2, hs9])]; simp [go_sem]) fun F3 => ?_
          refine lyp F3 rfl hC rfl (by omega) (wanted_none rfl) (v := Value.map (some mb)) (fun wr hwr => by simp only [execOp, (F3.eval 21 (by omega)).trans (show _ = Value.pointer (some ⟨hb, 3, none⟩) from by simp [upd, hs0, hs2, hs9])]; simp [go_sem, hwr.2]) fun F4 => ?_
          refine lyp F4 rfl hC rfl (by omega) (wanted_none rfl) (v := Value.int .i64 (x.k * 16 + b.me)) (fun wr hwr => by simp only [execOp, (F4.eval 9 (by omega)).trans (show _ = Value.int .i64 (x.k * 16 + b.me) from by simp [upd, hs0, hs2, hs9])]; first | rfl | simp [go_sem]) fun F5 => ?_
          refine lcp F5 rfl hC rfl (by omega) (wanted_none rfl) (g := 41) (args := #[Value.int .i64 (x.k * 16 + b.me)]) (by simp only [execOp, resolve, invoke, List.map_toArray, List.map_cons, List.map_nil, (F5.eval 23 (by omega)).trans (show _ = Value.int .i64 (x.k * 16 + b.me) from by simp [upd, hs0, hs2, hs9])]; simp [go_sem, Act.eval]) (placeOf_any (x.k * 16 + b.me) X hwn) ?_
          rintro e1 w1 ⟨rfl, hb1⟩
          have hX1 := hX.below hb1
          have hC1 : HMap w1 mb b.me (b.mid now s i).L ∧ w1.cell? ⟨hb, 3, none⟩ = some (.map (some mb)) := ⟨hX1.bk.map, hX1.bk.c3⟩
          rw [hmod.1, hmod.2]
          refine ⟨_, rfl, fun F6 => ?_⟩
          refine lyp F6 rfl hC1 rfl (by omega) (wanted_none rfl) (v := holdV x.am x.du) (fun wr hwr => by simp only [execOp, (F6.eval 22 (by omega)).trans (show _ = Value.map (some mb) from by simp [upd, hs0, hs2, hs9]), (F6.eval 24 (by omega)).trans (show _ = keyV b.me x.k from by simp [upd, hs0, hs2, hs9])]; simp [go_sem, hwr.1.look_ok x.k false, hlk]) fun F7 => ?_
          refine lyp F7 rfl hC1 rfl (by omega) (wanted_none rfl) (v := Value.int .i64 x.du) (fun wr hwr => by simp only [execOp, (F7.eval 25 (by omega)).trans (show _ = holdV x.am x.du from by simp [upd, hs0, hs2, hs9])]; simp [go_sem, holdV, field80]) fun F8 => ?_
          refine lyp F8 rfl hC1 rfl (by omega) (wanted_none rfl) (v := Value.int .i64 now) (fun wr hwr => by simp only [execOp, (F8.eval 2 (by omega)).trans (show _ = Value.int .i64 now from by simp [upd, hs0, hs2, hs9])]; first | rfl | simp [go_sem]) fun F9 => ?_
          refine lyp F9 rfl hC1 rfl (by omega) (wanted_none rfl) (v := Value.bool false) (fun wr hwr => by simp only [execOp, (F9.eval 26 (by omega)).trans (show _ = Value.int .i64 x.du from by simp [upd, hs0, hs2, hs9]), (F9.eval 27 (by omega)).trans (show _ = Value.int .i64 now from by simp [upd, hs0, hs2, hs9])]; simp [go_sem, Act.eval, hdue]) fun F10 => ?_
          refine ⟨fun _ => hC1, ?_⟩
          refine hK _ _ ?_
          clear F0 F1 F2 F3 F4 F5 F6 F7 F8 F9 F10 hs0 hs2 hs9 hC hC1
          simp only [Act.put, List.setIfInBounds_toArray, List.set_cons_succ, List.set_cons_zero]
          have HX1 : Hid _ := hX1
          clear hK hX hb1 hX1
          have hE1 := HX1.out
          have hrl := release_any w1 hE1.sen hE1.bk hE1.led (xrun_ok now s _ HO.out) hE1.lm.2.1 (x.k * 16 + b.me) hwn
          have ec : (b.mid now s i).ecode (xrun now s (b.L.take i)).s (x.k * 16 + b.me) = cd := by
            rw [BS.e_some (b.mid now s i) _ _ x hmod.1 (by rw [hmod.2]; exact hlk)]; exact HCD.out
          have ecf : (cd == 0) = false := HC.out
          rw [show (b.mid now s i).eamt (xrun now s (b.L.take i)).s (x.k * 16 + b.me) = 0 by simp [BS.eamt, ec, ecf], show (b.mid now s i).enext (xrun now s (b.L.take i)).s (x.k * 16 + b.me) = b.mid now s i by simp [BS.enext, ec, ecf], show (b.mid now s i).elnext (xrun now s (b.L.take i)).s 0 (x.k * 16 + b.me) = (xrun now s (b.L.take i)).s by simp [BS.elnext, ec, ecf], ec] at hrl
          have HRL : Hid _ := hrl
          clear hwn hmod hlk hE1 hrl ec ecf
          go_wp2_with fail
          refine Calls.mono HRL.out ?_
          rintro e w2 ⟨rfl, hB2, hl2, hc2'⟩
          have HF : Hid _ := HX1.out.stay HX.out HHIT.out hc2' hB2 hl2
          clear hB2 hl2 hc2'
          go_wp2_with fail
          go_roundw
          case rel => exact ⟨i + 1, by go_num, by omega, HF.out⟩
          case measure => simp [intOf]; omega
    · have hii : b.L.length ≤ i := by omega
      have hE0 := hE
      have e1 := xrun_all (now := now) (s := s) hii
      have HF : Hid _ := (show wr.ownsRow w.heap.size 3 1 u7 (xrun now s b.L).told.length ((numsOf b.me (xrun now s b.L).told).map I) ∧ Bk hb mb { b with L := (xrun now s b.L).left } wr ∧ Blk wr lb (xrun now s b.L).s.cs 71 ∧ Chg (fun k => k = mb ∨ k = lb) w wr from ⟨e1 ▸ hE0.own, (mid_all b now s hii) ▸ hE0.bk, e1 ▸ hE0.led, hE0.chg⟩)
      clear hE hE0 e1
      go_wp2_with fail
      go_ret
      exact ⟨_, rfl, HF.out⟩
end Go.Proofs.YtkdndfdofhnagaaDoor
