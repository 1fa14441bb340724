import Derived.Test.YtgohjkamikpdcaaBy
import Derived.Test.YtgohjkamikpdcaaTh1
namespace Go.Proofs.Ytgohjkamikpdcaa
open Go.RowKit Go.PlainAid
set_option linter.unusedVariables false
set_option linter.unusedSimpArgs false
def okD (total : Int) (ws : List Int) : Bool := decide (0 ≤ total) && decide (total ≤ 1099511627776) && rightW ws
def dealC (total : Int) (ws : List Int) : Int := if okD total ws then 0 else 1
def dealG (total : Int) (cs : List Int) : List Int := bump (parts0 total cs) ((ord (rests0 total cs)).take (leftOf total cs).toNat)
def dealL (total : Int) (ws : List Int) : List Int := if okD total ws then dealG total (cnt ws) else []
structure Cnt (cs : List Int) (n : Nat) : Prop where
  len : cs.length = n
  pos : 0 < n
  le : n ≤ 16
  ok : ∀ j, j < n → 0 ≤ at0 cs j ∧ at0 cs j ≤ 1048576
  sum : 0 < cs.sum
theorem mem_at0 {cs : List Int} {z : Int} (h : z ∈ cs) : ∃ j, j < cs.length ∧ at0 cs j = z := by
  obtain ⟨j, hj, rfl⟩ := List.getElem_of_mem h
  exact ⟨j, hj, at0_lt hj⟩
theorem cnt_ok {ws : List Int} (h : rightW ws = true) : Cnt (cnt ws) ws.length := by
  unfold rightW at h
  simp only [Bool.and_eq_true, decide_eq_true_eq] at h
  obtain ⟨⟨h1, h2⟩, h3⟩ := h
  have hok := fun j (hj : j < ws.length) => okW_at h3 hj
  by_cases h4 : ∃ j, j < ws.length ∧ at0 ws j ≠ 0
  · obtain ⟨j, hj, hne⟩ := h4
    have e := cnt_some hj hne
    rw [e]
    refine ⟨rfl, by omega, h2, hok, sum_pos (fun z hz => ?_) hj (by have := hok j hj; omega)⟩
    obtain ⟨i, hi, rfl⟩ := mem_at0 hz
    exact (hok i hi).1
  · have e := cnt_zero (zs := ws) rfl (fun j hj => Classical.byContradiction fun hne => h4 ⟨j, hj, hne⟩)
    rw [e]
    have ha : ∀ j, j < ws.length → at0 (List.replicate ws.length (1 : Int)) j = 1 := fun j hj => by rw [at0_lt (by simpa using hj)]; simp
    refine ⟨by simp, by omega, h2, fun j hj => by rw [ha j hj]; omega, sum_pos (j := 0) (fun z hz => ?_) (by simp; omega) (by rw [ha 0 (by omega)]; omega)⟩
    rw [List.mem_replicate] at hz
    omega
theorem Cnt.sum_le {cs : List Int} {n : Nat} (h : Cnt cs n) : cs.sum ≤ 16777216 := by
  have := (sum_bound cs 1048576 (fun z hz => by obtain ⟨j, hj, rfl⟩ := mem_at0 hz; exact h.ok j (by have := h.len; omega))).2
  have h1 := h.len
  have h2 := h.le
  omega
theorem Cnt.sum_take {cs : List Int} {n : Nat} (h : Cnt cs n) (k : Nat) (hk : k ≤ n) : 0 ≤ (cs.take k).sum ∧ (cs.take k).sum ≤ 16777216 := by
  have := (sum_bound (cs.take k) 1048576 (fun z hz => by obtain ⟨j, hj, rfl⟩ := mem_at0 (List.mem_of_mem_take hz); exact h.ok j (by have := h.len; omega)))
  have h1 := h.len
  have h2 := h.le
  simp only [List.length_take] at this
  omega
/-- What Deal holds in memory: the weights that count, the parts, the rests. -/
structure DM (L gc gp gr n cap : Nat) (cs ps rs : List Int) (w wr : World) : Prop where
  below : Below L w wr
  c : wr.ownsRow L 3 1 (.slice (some ⟨gc, 0, none⟩) n cap) n (cs.map I)
  p : wr.ownsRow L 3 1 (.slice (some ⟨gp, 0, none⟩) n n) n (ps.map I)
  r : wr.ownsRow L 3 1 (.slice (some ⟨gr, 0, none⟩) n n) n (rs.map I)
  cp : gc ≠ gp
  cr : gc ≠ gr
  pr : gp ≠ gr
  lw : L ≤ w.heap.size
section
variable {L gc gp gr n cap : Nat} {cs ps rs : List Int} {w wr w2 : World}
theorem own_other {g g2 k m cap' : Nat} {zs : List Int} (h : wr.ownsRow L 3 1 (.slice (some ⟨g, 0, none⟩) m cap') m (zs.map I)) (hne : g ≠ g2) (u : Value) : (wr.setCell ⟨g2, k, none⟩ u).ownsRow L 3 1 (.slice (some ⟨g, 0, none⟩) m cap') m (zs.map I) :=
  ownsRow_same h fun j hj => by
    have : j = g := (Option.some.inj hj).symm
    subst this
    exact Below.heap_setCell _ _ _ _ hne
theorem DM.setp (h : DM L gc gp gr n cap cs ps rs w wr) {k : Nat} (hk : k < n) (z : Int) : DM L gc gp gr n cap cs (ps.set k z) rs w (wr.setCell ⟨gp, k, none⟩ (.int .i64 z)) ∧ wr.frozen? ⟨gp, k, none⟩ = false ∧ wr.cell? ⟨gp, k, none⟩ = some (.int .i64 (at0 ps k)) := by
  obtain ⟨h1, h2, h3⟩ := own_set h.p hk z
  exact ⟨⟨h.below.setCell (p := ⟨gp, k, none⟩) (ownsRow_lt h.p rfl).1 _, own_other h.c h.cp _, h1, own_other h.r h.pr.symm _, h.cp, h.cr, h.pr, h.lw⟩, h2, h3⟩
theorem DM.setr (h : DM L gc gp gr n cap cs ps rs w wr) {k : Nat} (hk : k < n) (z : Int) : DM L gc gp gr n cap cs ps (rs.set k z) w (wr.setCell ⟨gr, k, none⟩ (.int .i64 z)) ∧ wr.frozen? ⟨gr, k, none⟩ = false ∧ wr.cell? ⟨gr, k, none⟩ = some (.int .i64 (at0 rs k)) := by
  obtain ⟨h1, h2, h3⟩ := own_set h.r hk z
  exact ⟨⟨h.below.setCell (p := ⟨gr, k, none⟩) (ownsRow_lt h.r rfl).1 _, own_other h.c h.cr _, own_other h.p h.pr _, h1, h.cp, h.cr, h.pr, h.lw⟩, h2, h3⟩
theorem DM.same (h : DM L gc gp gr n cap cs ps rs w wr) (hb : Below wr.heap.size wr w2) : DM L gc gp gr n cap cs ps rs w w2 :=
  ⟨h.below.trans (hb.mono (Nat.le_trans h.lw h.below.size)), ownsRow_same h.c fun j hj => hb.block j (ownsRow_lt h.c hj).2, ownsRow_same h.p fun j hj => hb.block j (ownsRow_lt h.p hj).2, ownsRow_same h.r fun j hj => hb.block j (ownsRow_lt h.r hj).2, h.cp, h.cr, h.pr, h.lw⟩
theorem DM.drew (h : DM L gc gp gr n cap cs ps rs w wr) : DM L gc gp gr n cap cs ps rs w wr.drew := h.same (Below.drew (Below.refl _ _))
theorem DM.start1 (hb : Below L w wr) (hL : L ≤ w.heap.size) (hc : wr.ownsRow L 3 1 (.slice (some ⟨gc, 0, none⟩) n cap) n (cs.map I)) (hn : n ≤ 16) : DM L gc wr.heap.size (wr.heap.size + 1) n cap cs (List.replicate n 0) (List.replicate n 0) w ((wr.alloc (.cells (zeros n) 3)).alloc (.cells (zeros n) 3)) := by
  have hLw : L ≤ wr.heap.size := Nat.le_trans hL hb.size
  have hg : gc < wr.heap.size := (ownsRow_lt hc (g := gc) rfl).2
  have hs : (wr.alloc (.cells (zeros n) 3)).heap.size = wr.heap.size + 1 := World.size_alloc _ _
  have h2 := make_own n (by omega) (wr.alloc (.cells (zeros n) 3)) (base := L) (by omega)
  rw [hs] at h2
  exact ⟨(hb.alloc hLw _).alloc (by omega) _, (hc.alloc _).alloc _, (make_own n (by omega) wr hLw).alloc _, h2, by omega, by omega, by omega, hL⟩
theorem DM.start2 (hb : Below L w wr) (hL : L ≤ w.heap.size) (hc : wr.ownsRow L 3 1 (.slice (some ⟨gc, 0, none⟩) n cap) n (cs.map I)) (hn : n ≤ 16) : DM L gc (wr.heap.size + 1) wr.heap.size n cap cs (List.replicate n 0) (List.replicate n 0) w ((wr.alloc (.cells (zeros n) 3)).alloc (.cells (zeros n) 3)) := by
  have h := DM.start1 hb hL hc hn
  exact ⟨h.below, h.c, h.r, h.p, h.cr, h.cp, h.pr.symm, h.lw⟩
end
theorem sum_take_le {cs : List Int} (h : ∀ z ∈ cs, 0 ≤ z) (k : Nat) : (cs.take k).sum ≤ cs.sum := by
  have e : cs.sum = (cs.take k).sum + (cs.drop k).sum := by rw [← List.sum_append, List.take_append_drop]
  have : ∀ l : List Int, (∀ z ∈ l, 0 ≤ z) → 0 ≤ l.sum := by
    intro l
    induction l with
    | nil => simp
    | cons a l ih => intro h; have := h a (by simp); have := ih fun z hz => h z (by simp [hz]); simp only [List.sum_cons]; omega
  have := this (cs.drop k) fun z hz => h z (List.mem_of_mem_drop hz)
  omega
theorem left_take {cs : List Int} {n : Nat} (h : Cnt cs n) {total S : Int} (hS : cs.sum = S) (ht : 0 ≤ total) (k : Nat) : 0 ≤ total - ((cs.take k).map fun z => total * z / S).sum ∧ total - ((cs.take k).map fun z => total * z / S).sum ≤ total := by
  have hp := h.sum
  rw [hS] at hp
  have hz : ∀ z ∈ cs, 0 ≤ z := fun z hz => by obtain ⟨j, hj, rfl⟩ := mem_at0 hz; exact (h.ok j (by have := h.len; omega)).1
  have h1 := sum_split total S (cs.take k)
  have h2 := sum_take_le hz k
  rw [hS] at h2
  have h3 := sum_bound ((cs.take k).map fun z => total * z % S) (S - 1) (fun z hz => by
    rw [List.mem_map] at hz
    obtain ⟨c, _, rfl⟩ := hz
    exact rest_range hp c)
  have h4 : 0 ≤ ((cs.take k).map fun z => total * z / S).sum := by
    have : ∀ l : List Int, (∀ z ∈ l, 0 ≤ z) → 0 ≤ (l.map fun z => total * z / S).sum := by
      intro l
      induction l with
      | nil => simp
      | cons a l ih =>
        intro h
        have h1 := h a (by simp)
        have h2 := ih fun z hz => h z (by simp [hz])
        have h3 : 0 ≤ total * a / S := Int.ediv_nonneg (Int.mul_nonneg ht h1) (Int.le_of_lt hp)
        simp only [List.map_cons, List.sum_cons]
        omega
    exact this _ fun z hz2 => hz z (List.mem_of_mem_take hz2)
  have h5 : total * (cs.take k).sum ≤ total * S := Int.mul_le_mul_of_nonneg_left h2 ht
  refine ⟨?_, by omega⟩
  apply Classical.byContradiction
  intro hc
  have := Int.mul_le_mul_of_nonneg_right (show total + 1 ≤ ((cs.take k).map fun z => total * z / S).sum by omega) (Int.le_of_lt hp)
  rw [Int.add_mul] at this
  omega
theorem prod_range {total z : Int} (h0 : 0 ≤ total) (h1 : total ≤ 1099511627776) (h2 : 0 ≤ z) (h3 : z ≤ 1048576) : 0 ≤ total * z ∧ total * z ≤ 1152921504606846976 := by
  refine ⟨Int.mul_nonneg h0 h2, ?_⟩
  have := Int.mul_le_mul h1 h3 h2 (by omega)
  omega
set_option maxRecDepth 100000 in
set_option maxHeartbeats 1600000 in
theorem deal_ok {b off n c : Nat} {ws : List Int} (total : Int) (ht0 : 0 ≤ total) (ht1 : total ≤ 1099511627776) (w : World) (hl : ws.length = n) (hx : FromI w (some ⟨b, off, none⟩) ws) (hr : rightW ws = true) :
    Calls Try.prog 13 #[.int .i64 total, .slice (some ⟨b, off, none⟩) n c] w fun r w' => ∃ v, r = .returned (.tuple #[v, .int .i64 0]) ∧ w'.ownsRow w.heap.size 3 1 v n ((dealG total (cnt ws)).map I) ∧ Below w.heap.size w w' := by
  have hC := cnt_ok hr
  rw [hl] at hC
  have hrc := right_any (c := c) w hl hx (by unfold maxLen; have := hC.le; omega)
  rw [hr] at hrc
  have hcc := counting_any (c := c) w hl hx hC.pos hC.le (by unfold rightW at hr; simp only [Bool.and_eq_true] at hr; exact hr.2)
  have HC : Hid (Cnt (cnt ws) n) := hC
  have hp := hC.pos
  have hle := hC.le
  clear hx hC hl hr
  have hnt0 : ¬ total < 0 := by omega
  have hnt1 : ¬ 1099511627776 < total := by omega
  generalize cnt ws = cs at hcc HC ⊢
  go_enter Try.func13, Try.ntmps13
  go_wp2_with (first
    | (go_at_call 18; refine hrc.mono ?_; rintro e w' ⟨rfl, hw⟩; have hw2 := hw.symm; subst hw2; clear hw hrc)
    | (go_at_call 19; refine hcc.mono ?_; rintro e w1 ⟨v, rfl, hv, hb⟩; obtain ⟨gc, cap, rfl, hcap, hcm, hLg, hgs, _⟩ := own_form hv hp; have HV : Hid (w1.ownsRow w.heap.size 3 1 (.slice (some ⟨gc, 0, none⟩) n cap) n (cs.map I)) := hv; have HB : Hid (Below w.heap.size w w1) := hb; clear hv hb hcc))
  have hcl : cs.length = n := HC.out.len
  go_loopw [7, 32] (fun sv i wr => ∃ k : Nat, k ≤ n ∧ i = .int .i64 k ∧ sv = .int .i64 (cs.take k).sum ∧ wr = w1) (fun _ i _ => n - (intOf i).toNat)
  case atStart => exact ⟨0, Nat.zero_le _, rfl, by simp, rfl⟩
  case round =>
    obtain ⟨k, hk, rfl, rfl, rfl⟩ := hrel
    by_cases hlt : k < n
    · have e1 := own_at (show _ from HV.out) hlt
      have hs := sum_take_succ cs k (by omega)
      have h1 := HC.out.sum_take k hk
      have h2 := HC.out.sum_take (k + 1) hlt
      rw [hs] at h2
      have HS : Hid _ := hs
      clear hs
      generalize (cs.take k).sum = sk at h1 h2 HS
      generalize at0 cs k = z at e1 h2 HS
      go_wp2
      go_roundw
      case rel => exact ⟨k + 1, by omega, by go_num, by rw [HS.out], by first | trivial | rfl⟩
      case measure => simp [intOf]; omega
    · obtain rfl : n = k := by omega
      have hS : (cs.take n).sum = cs.sum := by rw [List.take_of_length_le (by omega)]
      have hsp := HC.out.sum
      have hsl := HC.out.sum_le
      rw [hS]
      clear hS
      generalize hSS : cs.sum = S at hsp hsl
      have HSS : Hid (cs.sum = S) := hSS
      clear hSS
      have hmk := fun W => make_run n (by omega) W
      have D1 : DM w.heap.size gc wr.heap.size (wr.heap.size + 1) n cap cs (List.replicate n 0) (List.replicate n 0) w ((wr.alloc (.cells (zeros n) 3)).alloc (.cells (zeros n) 3)).drew := (DM.start1 HB.out (Nat.le_refl _) HV.out hle).drew
      have D2 : DM w.heap.size gc (wr.heap.size + 1) wr.heap.size n cap cs (List.replicate n 0) (List.replicate n 0) w ((wr.alloc (.cells (zeros n) 3)).alloc (.cells (zeros n) 3)).drew := (DM.start2 HB.out (Nat.le_refl _) HV.out hle).drew
      have HD1 : Hid _ := D1
      have HD2 : Hid _ := D2
      clear D1 D2 HV HB
      go_wp2
      go_region
      · clear hmk HD2
        generalize ((wr.alloc (.cells (zeros n) 3)).alloc (.cells (zeros n) 3)).drew = X0 at HD1 ⊢
        generalize wr.heap.size + 1 = gr at HD1 ⊢
        generalize wr.heap.size = gp at HD1 ⊢ hgs
        clear hgs
        go_wp2
        go_loopw [12, 49] (fun lv i wr => ∃ k : Nat, k ≤ n ∧ i = .int .i64 k ∧ lv = .int .i64 (total - ((cs.take k).map fun z => total * z / S).sum) ∧ Hid (DM w.heap.size gc gp gr n cap cs (mapTo (fun z => total * z / S) k cs) (mapTo (fun z => total * z % S) k cs) w wr)) (fun _ i _ => n - (intOf i).toNat)
        case atStart => exact ⟨0, Nat.zero_le _, rfl, by simp, by rw [mapTo_zero, mapTo_zero, hcl]; exact HD1⟩
        case round =>
          clear HD1
          obtain ⟨k, hk, rfl, rfl, HD⟩ := hrel
          by_cases hlt : k < n
          · have e1 := own_at HD.out.c hlt
            obtain ⟨hp0, hp1⟩ := HC.out.ok k hlt
            obtain ⟨hm0, hm1⟩ := prod_range ht0 ht1 hp0 hp1
            have hq1 : Int.tdiv (total * at0 cs k) S = total * at0 cs k / S := Int.tdiv_eq_ediv_of_nonneg hm0
            have hr1 : Int.tmod (total * at0 cs k) S = total * at0 cs k % S := Int.tmod_eq_emod_of_nonneg hm0
            have hq2 : 0 ≤ total * at0 cs k / S := Int.ediv_nonneg hm0 (Int.le_of_lt hsp)
            have hq3 : total * at0 cs k / S ≤ total * at0 cs k := Int.ediv_le_self _ hm0
            have hr2 := rest_range (total := total) hsp (at0 cs k)
            obtain ⟨D1, f1, c1⟩ := HD.out.drew.setp hlt (total * at0 cs k / S)
            obtain ⟨D2, f2, c2⟩ := D1.setr hlt (total * at0 cs k % S)
            have hstp := mapTo_set (f := fun z => total * z / S) (k := k) (cs := cs) (by omega)
            have hstr := mapTo_set (f := fun z => total * z % S) (k := k) (cs := cs) (by omega)
            rw [hstp, hstr] at D2
            have e2 : World.cell? (((wr.drew).setCell ⟨gp, k, none⟩ (.int .i64 (total * at0 cs k / S))).setCell ⟨gr, k, none⟩ (.int .i64 (total * at0 cs k % S))) ⟨gp, k, none⟩ = some (.int .i64 (total * at0 cs k / S)) := by
              have := own_at D2.p hlt
              rwa [mapTo_at (by omega)] at this
            have hlk := left_take HC.out HSS.out ht0 k
            have hlk1 := left_take HC.out HSS.out ht0 (k + 1)
            have hs : ((cs.take (k + 1)).map fun z => total * z / S).sum = ((cs.take k).map fun z => total * z / S).sum + total * at0 cs k / S := by
              rw [take_snoc cs k (by omega), List.map_append, List.sum_append, at0_lt (by omega)]
              simp
            rw [hs] at hlk1
            have HS : Hid _ := hs
            have HD2 : Hid _ := D2
            clear hs D1 D2 HD hstp hstr
            generalize ((cs.take k).map fun z => total * z / S).sum = sk at hlk hlk1 HS
            generalize at0 cs k = z at *
            have hSne : S ≠ 0 := by omega
            have hwm : IntKind.i64.wrap (total * z) = total * z := by rw [IntKind.wrap_i64]; omega
            have hwq : IntKind.i64.wrap (total * z / S) = total * z / S := by rw [IntKind.wrap_i64]; omega
            have hwr : IntKind.i64.wrap (total * z % S) = total * z % S := by rw [IntKind.wrap_i64]; omega
            have hq := hq1
            have hr := hr1
            have c2' : (wr.setCell ⟨gp, k, none⟩ (.int .i64 (total * z / S))).cell? ⟨gr, k, none⟩ = some (.int .i64 (at0 (mapTo (fun z => total * z % S) k cs) k)) := c2
            have f2' : (wr.setCell ⟨gp, k, none⟩ (.int .i64 (total * z / S))).frozen? ⟨gr, k, none⟩ = false := f2
            go_wp2_with fail
            rename_i K hK
            try rw [show ∀ a : Act, a.put none undef = a from fun _ => rfl]
            refine wp_region_mix (fun _ => True) (fun i => i == 15 || i == 17 || i == 99) 99 (by kernel_rfl) rfl (by kernel_rfl) (by kernel_rfl) (by kernel_rfl) ?_
            refine withFrP (N := 94) rfl ?_
            intro f0 F0 hff
            have e0 : f0 0 = Value.int .i64 total := hff 0
            have e7 : f0 7 = Value.int .i64 S := hff 7
            have e10 : f0 10 = Value.slice (some ⟨gp, 0, none⟩) n n := hff 10
            have e11 : f0 11 = Value.slice (some ⟨gr, 0, none⟩) n n := hff 11
            have e13 : f0 13 = Value.int .i64 (k : Int) := hff 13
            have e14 : f0 14 = Value.int .i64 z := hff 14
            clear hff
            refine lyp F0 rfl trivial rfl (by omega) (wanted_none rfl) (v := Value.slice (some ⟨gp, 0, none⟩) n n) (fun wr hwr => by simp only [execOp, (F0.eval 10 (by omega)).trans (show _ = Value.slice (some ⟨gp, 0, none⟩) n n from by simp [upd, e0, e7, e10, e11, e13, e14])]; first | rfl | simp [go_sem]) fun F1 => ?_
            refine lyp F1 rfl trivial rfl (by omega) (wanted_none rfl) (v := Value.int .i64 (k : Int)) (fun wr hwr => by simp only [execOp, (F1.eval 13 (by omega)).trans (show _ = Value.int .i64 (k : Int) from by simp [upd, e0, e7, e10, e11, e13, e14])]; first | rfl | simp [go_sem]) fun F2 => ?_
            refine lyp F2 rfl trivial rfl (by omega) (wanted_none rfl) (v := Value.slice (some ⟨gr, 0, none⟩) n n) (fun wr hwr => by simp only [execOp, (F2.eval 11 (by omega)).trans (show _ = Value.slice (some ⟨gr, 0, none⟩) n n from by simp [upd, e0, e7, e10, e11, e13, e14])]; first | rfl | simp [go_sem]) fun F3 => ?_
            refine lyp F3 rfl trivial rfl (by omega) (wanted_none rfl) (v := Value.int .i64 (k : Int)) (fun wr hwr => by simp only [execOp, (F3.eval 13 (by omega)).trans (show _ = Value.int .i64 (k : Int) from by simp [upd, e0, e7, e10, e11, e13, e14])]; first | rfl | simp [go_sem]) fun F4 => ?_
            refine lyp F4 rfl trivial rfl (by omega) (wanted_none rfl) (v := Value.int .i64 total) (fun wr hwr => by simp only [execOp, (F4.eval 0 (by omega)).trans (show _ = Value.int .i64 total from by simp [upd, e0, e7, e10, e11, e13, e14])]; first | rfl | simp [go_sem]) fun F5 => ?_
            refine lyp F5 rfl trivial rfl (by omega) (wanted_none rfl) (v := Value.int .i64 z) (fun wr hwr => by simp only [execOp, (F5.eval 14 (by omega)).trans (show _ = Value.int .i64 z from by simp [upd, e0, e7, e10, e11, e13, e14])]; first | rfl | simp [go_sem]) fun F6 => ?_
            refine lyp F6 rfl trivial rfl (by omega) (wanted_none rfl) (v := Value.int .i64 (total * z)) (fun wr hwr => by simp only [execOp, (F6.eval 58 (by omega)).trans (show _ = Value.int .i64 total from by simp [upd, e0, e7, e10, e11, e13, e14]), (F6.eval 59 (by omega)).trans (show _ = Value.int .i64 z from by simp [upd, e0, e7, e10, e11, e13, e14])]; simp [go_sem, Act.eval, hwm]) fun F7 => ?_
            refine lyp F7 rfl trivial rfl (by omega) (wanted_none rfl) (v := Value.int .i64 S) (fun wr hwr => by simp only [execOp, (F7.eval 7 (by omega)).trans (show _ = Value.int .i64 S from by simp [upd, e0, e7, e10, e11, e13, e14])]; first | rfl | simp [go_sem]) fun F8 => ?_
            refine lyp F8 rfl trivial rfl (by omega) (wanted_none rfl) (v := Value.int .i64 (total * z / S)) (fun wr hwr => by simp only [execOp, (F8.eval 60 (by omega)).trans (show _ = Value.int .i64 (total * z) from by simp [upd, e0, e7, e10, e11, e13, e14]), (F8.eval 61 (by omega)).trans (show _ = Value.int .i64 S from by simp [upd, e0, e7, e10, e11, e13, e14])]; simp [go_sem, Act.eval, hSne, hwq, hq]) fun F9 => ?_
            refine lyp F9 rfl trivial rfl (by omega) (wanted_none rfl) (v := Value.int .i64 total) (fun wr hwr => by simp only [execOp, (F9.eval 0 (by omega)).trans (show _ = Value.int .i64 total from by simp [upd, e0, e7, e10, e11, e13, e14])]; first | rfl | simp [go_sem]) fun F10 => ?_
            refine lyp F10 rfl trivial rfl (by omega) (wanted_none rfl) (v := Value.int .i64 z) (fun wr hwr => by simp only [execOp, (F10.eval 14 (by omega)).trans (show _ = Value.int .i64 z from by simp [upd, e0, e7, e10, e11, e13, e14])]; first | rfl | simp [go_sem]) fun F11 => ?_
            refine lyp F11 rfl trivial rfl (by omega) (wanted_none rfl) (v := Value.int .i64 (total * z)) (fun wr hwr => by simp only [execOp, (F11.eval 63 (by omega)).trans (show _ = Value.int .i64 total from by simp [upd, e0, e7, e10, e11, e13, e14]), (F11.eval 64 (by omega)).trans (show _ = Value.int .i64 z from by simp [upd, e0, e7, e10, e11, e13, e14])]; simp [go_sem, Act.eval, hwm]) fun F12 => ?_
            refine lyp F12 rfl trivial rfl (by omega) (wanted_none rfl) (v := Value.int .i64 S) (fun wr hwr => by simp only [execOp, (F12.eval 7 (by omega)).trans (show _ = Value.int .i64 S from by simp [upd, e0, e7, e10, e11, e13, e14])]; first | rfl | simp [go_sem]) fun F13 => ?_
            refine lyp F13 rfl trivial rfl (by omega) (wanted_none rfl) (v := Value.int .i64 (total * z % S)) (fun wr hwr => by simp only [execOp, (F13.eval 65 (by omega)).trans (show _ = Value.int .i64 (total * z) from by simp [upd, e0, e7, e10, e11, e13, e14]), (F13.eval 66 (by omega)).trans (show _ = Value.int .i64 S from by simp [upd, e0, e7, e10, e11, e13, e14])]; simp [go_sem, Act.eval, hSne, hwr, hr]) fun F14 => ?_
            refine lyp F14 rfl trivial rfl (by omega) (wanted_none rfl) (v := Value.pointer (some ⟨gp, k, none⟩)) (fun wr hwr => by simp only [execOp, (F14.eval 54 (by omega)).trans (show _ = Value.slice (some ⟨gp, 0, none⟩) n n from by simp [upd, e0, e7, e10, e11, e13, e14]), (F14.eval 55 (by omega)).trans (show _ = Value.int .i64 (k : Int) from by simp [upd, e0, e7, e10, e11, e13, e14])]; simp [go_sem, hlt]) fun F15 => ?_
            refine lst rfl trivial rfl (wanted_none rfl) (w1 := (({ wr with drawn := wr.drawn + 1 } : World)).setCell ⟨gp, k, none⟩ (.int .i64 (total * z / S))) (by simp only [execOp, (F15.eval 68 (by omega)).trans (show _ = Value.pointer (some ⟨gp, k, none⟩) from by simp [upd, e0, e7, e10, e11, e13, e14]), (F15.eval 62 (by omega)).trans (show _ = Value.int .i64 (total * z / S) from by simp [upd, e0, e7, e10, e11, e13, e14])]; simp [go_sem, c1, f1]) ?_
            refine lyp F15 rfl trivial rfl (by omega) (wanted_none rfl) (v := Value.pointer (some ⟨gr, k, none⟩)) (fun wr hwr => by simp only [execOp, (F15.eval 56 (by omega)).trans (show _ = Value.slice (some ⟨gr, 0, none⟩) n n from by simp [upd, e0, e7, e10, e11, e13, e14]), (F15.eval 57 (by omega)).trans (show _ = Value.int .i64 (k : Int) from by simp [upd, e0, e7, e10, e11, e13, e14])]; simp [go_sem, hlt]) fun F16 => ?_
            refine lst rfl trivial rfl (wanted_none rfl) (w1 := ((({ wr with drawn := wr.drawn + 1 } : World)).setCell ⟨gp, k, none⟩ (.int .i64 (total * z / S))).setCell ⟨gr, k, none⟩ (.int .i64 (total * z % S))) (by simp only [execOp, (F16.eval 69 (by omega)).trans (show _ = Value.pointer (some ⟨gr, k, none⟩) from by simp [upd, e0, e7, e10, e11, e13, e14]), (F16.eval 67 (by omega)).trans (show _ = Value.int .i64 (total * z % S) from by simp [upd, e0, e7, e10, e11, e13, e14])]; simp [go_sem, c2', f2']) ?_
            refine ⟨fun _ => trivial, ?_⟩
            refine hK _ _ ?_
            clear F0 F1 F2 F3 F4 F5 F6 F7 F8 F9 F10 F11 F12 F13 F14 F15 F16 e0 e7 e10 e11 e13 e14 
            simp only [Act.put, List.setIfInBounds_toArray, List.set_cons_succ, List.set_cons_zero]
            generalize hY : ((({ wr with drawn := wr.drawn + 1 } : World)).setCell ⟨gp, k, none⟩ (.int .i64 (total * z / S))).setCell ⟨gr, k, none⟩ (.int .i64 (total * z % S)) = Y
            have hY2 : ((wr.drew).setCell ⟨gp, k, none⟩ (.int .i64 (total * z / S))).setCell ⟨gr, k, none⟩ (.int .i64 (total * z % S)) = Y := hY
            rw [hY2] at e2 HD2
            clear hY hY2 c1 c2 f1 f2 e1 c2' f2'
            go_wp2
            go_roundw
            case rel => exact ⟨k + 1, by omega, by go_num, by rw [HS.out]; go_num, HD2⟩
            case measure => simp [intOf]; omega
          · obtain rfl : n = k := by omega
            have hD := HD.out
            rw [mapTo_all _ _ hcl, mapTo_all _ _ hcl, show (cs.map fun z => total * z / S) = parts0 total cs by unfold parts0; rw [HSS.out], show (cs.map fun z => total * z % S) = rests0 total cs by unfold rests0; rw [HSS.out]] at hD
            have hlf : total - ((cs.take n).map fun z => total * z / S).sum = leftOf total cs := by unfold leftOf parts0; rw [HSS.out, List.take_of_length_le (by omega)]
            rw [hlf]
            have hlb := left_bounds total cs HC.out.sum
            rw [hcl] at hlb
            have hrl : (rests0 total cs).length = n := by simp [rests0, hcl]
            have hol := ord_length (rests0 total cs)
            have hdef : dealG total cs = bump (parts0 total cs) ((ord (rests0 total cs)).take (leftOf total cs).toNat) := rfl
            obtain ⟨m, hm⟩ : ∃ m : Nat, leftOf total cs = m := ⟨(leftOf total cs).toNat, by omega⟩
            rw [hm] at hlb hdef ⊢
            rw [Int.toNat_natCast] at hdef
            have hfr := own_from hD.r
            obtain ⟨_, _, er, _, _, _, hfr, _⟩ := hfr
            cases er
            have hby := byRests_any (c := n) wr hrl hfr hp hle
            have hpb : ∀ j, j < n → 0 ≤ at0 (parts0 total cs) j ∧ at0 (parts0 total cs) j ≤ 1152921504606846976 := fun j hj => by
              unfold parts0
              rw [at0_map _ (by omega)]
              obtain ⟨hp0, hp1⟩ := HC.out.ok j hj
              obtain ⟨hm0, hm1⟩ := prod_range ht0 ht1 hp0 hp1
              exact ⟨Int.ediv_nonneg hm0 (Int.le_of_lt HC.out.sum), Int.le_trans (Int.ediv_le_self _ hm0) hm1⟩
            have hpl : (parts0 total cs).length = n := by simp [parts0, hcl]
            have homem : ∀ j, j ∈ ord (rests0 total cs) → j < n := fun j hj => by rw [← hrl]; exact ord_mem.mp hj
            have hond := ord_nodup (rests0 total cs)
            have HDEF : Hid _ := hdef
            have HPB : Hid _ := hpb
            have HOM : Hid _ := homem
            have HON : Hid _ := hond
            have HDD : Hid _ := hD
            clear hlf HD hfr hdef hpb homem hond hD
            generalize ord (rests0 total cs) = od at *
            generalize parts0 total cs = p0 at *
            have hmn : m ≤ n := by omega
            go_wp2_with (go_at_call 20; refine hby.mono ?_; rintro e w2 ⟨v, rfl, hv, hb⟩; obtain ⟨go, cap2, rfl, hcap2, hcm2, hLg2, hgs2, _⟩ := own_form hv hp; have HV2 : Hid (w2.ownsRow wr.heap.size 3 1 (.slice (some ⟨go, 0, none⟩) n cap2) n ((od.map fun (i : Nat) => (i : Int)).map I)) := hv; have HB2 : Hid (Below wr.heap.size wr w2) := hb; clear hv hb hby; have hmc : m ≤ cap2 := by omega)
            have hgpo : gp ≠ go := by
              have := (ownsRow_lt HDD.out.p (g := gp) rfl).2
              omega
            have HE : Hid (DM w.heap.size gc gp gr n cap cs p0 (rests0 total cs) w w2) := HDD.out.same HB2.out
            clear HDD
            go_loopw [82] (fun i w3 => ∃ k : Nat, k ≤ m ∧ i = .int .i64 k ∧ Hid (DM w.heap.size gc gp gr n cap cs (bump p0 (od.take k)) (rests0 total cs) w w3) ∧ Hid (w3.ownsRow wr.heap.size 3 1 (.slice (some ⟨go, 0, none⟩) n cap2) n ((od.map fun (i : Nat) => (i : Int)).map I))) (fun i _ => m - (intOf i).toNat)
            case atStart => exact ⟨0, Nat.zero_le _, rfl, HE, HV2⟩
            case round =>
              clear HE HV2
              obtain ⟨k, hk, rfl, HE, HV⟩ := hrel
              by_cases hlt : k < m
              · have hkn : k < od.length := by omega
                have e1 := own_at HV.out (show k < n by omega)
                rw [at0_lt (by simp; omega), List.getElem_map] at e1
                have hj := HOM.out od[k] (List.getElem_mem hkn)
                have htk : od.take (k + 1) = od.take k ++ [od[k]] := take_snoc od k hkn
                have hbs := bump_snoc p0 (od.take k) od[k]
                rw [← htk] at hbs
                have hv := bump_at p0 (od.take k) (List.Nodup.sublist (List.take_sublist _ _) HON.out) (fun a ha => by rw [hpl]; exact HOM.out a (List.mem_of_mem_take ha)) od[k]
                have hb2 := HPB.out od[k] hj
                have hvb : 0 ≤ at0 (bump p0 (od.take k)) od[k] ∧ at0 (bump p0 (od.take k)) od[k] ≤ 1152921504606846977 := by
                  rw [hv]
                  split <;> omega
                generalize od[k] = j at *
                obtain ⟨D1, f1, c1⟩ := HE.out.setp hj (at0 (bump p0 (od.take k)) j + 1)
                rw [← hbs] at D1
                have HD1 : Hid _ := D1
                have HV1 : Hid _ := own_other (k := j) HV.out hgpo.symm (.int .i64 (at0 (bump p0 (od.take k)) j + 1))
                clear D1 hbs hv htk HE HV hb2
                generalize at0 (bump p0 (od.take k)) j = x at *
                go_wp2
                go_roundw
                case rel => exact ⟨k + 1, by omega, by go_num, HD1, HV1⟩
                case measure => simp [intOf]; omega
              · obtain rfl : m = k := by omega
                go_wp2
                go_ret2
                refine ⟨_, rfl, ?_, HE.out.below⟩
                rw [HDEF.out]
                exact HE.out.p
      · clear hmk HD1
        generalize ((wr.alloc (.cells (zeros n) 3)).alloc (.cells (zeros n) 3)).drew = X0 at HD2 ⊢
        generalize wr.heap.size + 1 = gp at HD2 ⊢
        generalize wr.heap.size = gr at HD2 ⊢ hgs
        clear hgs
        go_wp2
        go_loopw [12, 49] (fun lv i wr => ∃ k : Nat, k ≤ n ∧ i = .int .i64 k ∧ lv = .int .i64 (total - ((cs.take k).map fun z => total * z / S).sum) ∧ Hid (DM w.heap.size gc gp gr n cap cs (mapTo (fun z => total * z / S) k cs) (mapTo (fun z => total * z % S) k cs) w wr)) (fun _ i _ => n - (intOf i).toNat)
        case atStart => exact ⟨0, Nat.zero_le _, rfl, by simp, by rw [mapTo_zero, mapTo_zero, hcl]; exact HD2⟩
        case round =>
          clear HD2
          obtain ⟨k, hk, rfl, rfl, HD⟩ := hrel
          by_cases hlt : k < n
          · have e1 := own_at HD.out.c hlt
            obtain ⟨hp0, hp1⟩ := HC.out.ok k hlt
            obtain ⟨hm0, hm1⟩ := prod_range ht0 ht1 hp0 hp1
            have hq1 : Int.tdiv (total * at0 cs k) S = total * at0 cs k / S := Int.tdiv_eq_ediv_of_nonneg hm0
            have hr1 : Int.tmod (total * at0 cs k) S = total * at0 cs k % S := Int.tmod_eq_emod_of_nonneg hm0
            have hq2 : 0 ≤ total * at0 cs k / S := Int.ediv_nonneg hm0 (Int.le_of_lt hsp)
            have hq3 : total * at0 cs k / S ≤ total * at0 cs k := Int.ediv_le_self _ hm0
            have hr2 := rest_range (total := total) hsp (at0 cs k)
            obtain ⟨D1, f1, c1⟩ := HD.out.drew.setp hlt (total * at0 cs k / S)
            obtain ⟨D2, f2, c2⟩ := D1.setr hlt (total * at0 cs k % S)
            have hstp := mapTo_set (f := fun z => total * z / S) (k := k) (cs := cs) (by omega)
            have hstr := mapTo_set (f := fun z => total * z % S) (k := k) (cs := cs) (by omega)
            rw [hstp, hstr] at D2
            have e2 : World.cell? (((wr.drew).setCell ⟨gp, k, none⟩ (.int .i64 (total * at0 cs k / S))).setCell ⟨gr, k, none⟩ (.int .i64 (total * at0 cs k % S))) ⟨gp, k, none⟩ = some (.int .i64 (total * at0 cs k / S)) := by
              have := own_at D2.p hlt
              rwa [mapTo_at (by omega)] at this
            have hlk := left_take HC.out HSS.out ht0 k
            have hlk1 := left_take HC.out HSS.out ht0 (k + 1)
            have hs : ((cs.take (k + 1)).map fun z => total * z / S).sum = ((cs.take k).map fun z => total * z / S).sum + total * at0 cs k / S := by
              rw [take_snoc cs k (by omega), List.map_append, List.sum_append, at0_lt (by omega)]
              simp
            rw [hs] at hlk1
            have HS : Hid _ := hs
            have HD2 : Hid _ := D2
            clear hs D1 D2 HD hstp hstr
            generalize ((cs.take k).map fun z => total * z / S).sum = sk at hlk hlk1 HS
            generalize at0 cs k = z at *
            have hSne : S ≠ 0 := by omega
            have hwm : IntKind.i64.wrap (total * z) = total * z := by rw [IntKind.wrap_i64]; omega
            have hwq : IntKind.i64.wrap (total * z / S) = total * z / S := by rw [IntKind.wrap_i64]; omega
            have hwr : IntKind.i64.wrap (total * z % S) = total * z % S := by rw [IntKind.wrap_i64]; omega
            have hq := hq1
            have hr := hr1
            have c2' : (wr.setCell ⟨gp, k, none⟩ (.int .i64 (total * z / S))).cell? ⟨gr, k, none⟩ = some (.int .i64 (at0 (mapTo (fun z => total * z % S) k cs) k)) := c2
            have f2' : (wr.setCell ⟨gp, k, none⟩ (.int .i64 (total * z / S))).frozen? ⟨gr, k, none⟩ = false := f2
            go_wp2_with fail
            rename_i K hK
            try rw [show ∀ a : Act, a.put none undef = a from fun _ => rfl]
            refine wp_region_mix (fun _ => True) (fun i => i == 15 || i == 17 || i == 99) 99 (by kernel_rfl) rfl (by kernel_rfl) (by kernel_rfl) (by kernel_rfl) ?_
            refine withFrP (N := 94) rfl ?_
            intro f0 F0 hff
            have e0 : f0 0 = Value.int .i64 total := hff 0
            have e7 : f0 7 = Value.int .i64 S := hff 7
            have e10 : f0 10 = Value.slice (some ⟨gp, 0, none⟩) n n := hff 10
            have e11 : f0 11 = Value.slice (some ⟨gr, 0, none⟩) n n := hff 11
            have e13 : f0 13 = Value.int .i64 (k : Int) := hff 13
            have e14 : f0 14 = Value.int .i64 z := hff 14
            clear hff
            refine lyp F0 rfl trivial rfl (by omega) (wanted_none rfl) (v := Value.slice (some ⟨gp, 0, none⟩) n n) (fun wr hwr => by simp only [execOp, (F0.eval 10 (by omega)).trans (show _ = Value.slice (some ⟨gp, 0, none⟩) n n from by simp [upd, e0, e7, e10, e11, e13, e14])]; first | rfl | simp [go_sem]) fun F1 => ?_
            refine lyp F1 rfl trivial rfl (by omega) (wanted_none rfl) (v := Value.int .i64 (k : Int)) (fun wr hwr => by simp only [execOp, (F1.eval 13 (by omega)).trans (show _ = Value.int .i64 (k : Int) from by simp [upd, e0, e7, e10, e11, e13, e14])]; first | rfl | simp [go_sem]) fun F2 => ?_
            refine lyp F2 rfl trivial rfl (by omega) (wanted_none rfl) (v := Value.slice (some ⟨gr, 0, none⟩) n n) (fun wr hwr => by simp only [execOp, (F2.eval 11 (by omega)).trans (show _ = Value.slice (some ⟨gr, 0, none⟩) n n from by simp [upd, e0, e7, e10, e11, e13, e14])]; first | rfl | simp [go_sem]) fun F3 => ?_
            refine lyp F3 rfl trivial rfl (by omega) (wanted_none rfl) (v := Value.int .i64 (k : Int)) (fun wr hwr => by simp only [execOp, (F3.eval 13 (by omega)).trans (show _ = Value.int .i64 (k : Int) from by simp [upd, e0, e7, e10, e11, e13, e14])]; first | rfl | simp [go_sem]) fun F4 => ?_
            refine lyp F4 rfl trivial rfl (by omega) (wanted_none rfl) (v := Value.int .i64 total) (fun wr hwr => by simp only [execOp, (F4.eval 0 (by omega)).trans (show _ = Value.int .i64 total from by simp [upd, e0, e7, e10, e11, e13, e14])]; first | rfl | simp [go_sem]) fun F5 => ?_
            refine lyp F5 rfl trivial rfl (by omega) (wanted_none rfl) (v := Value.int .i64 z) (fun wr hwr => by simp only [execOp, (F5.eval 14 (by omega)).trans (show _ = Value.int .i64 z from by simp [upd, e0, e7, e10, e11, e13, e14])]; first | rfl | simp [go_sem]) fun F6 => ?_
            refine lyp F6 rfl trivial rfl (by omega) (wanted_none rfl) (v := Value.int .i64 (total * z)) (fun wr hwr => by simp only [execOp, (F6.eval 58 (by omega)).trans (show _ = Value.int .i64 total from by simp [upd, e0, e7, e10, e11, e13, e14]), (F6.eval 59 (by omega)).trans (show _ = Value.int .i64 z from by simp [upd, e0, e7, e10, e11, e13, e14])]; simp [go_sem, Act.eval, hwm]) fun F7 => ?_
            refine lyp F7 rfl trivial rfl (by omega) (wanted_none rfl) (v := Value.int .i64 S) (fun wr hwr => by simp only [execOp, (F7.eval 7 (by omega)).trans (show _ = Value.int .i64 S from by simp [upd, e0, e7, e10, e11, e13, e14])]; first | rfl | simp [go_sem]) fun F8 => ?_
            refine lyp F8 rfl trivial rfl (by omega) (wanted_none rfl) (v := Value.int .i64 (total * z / S)) (fun wr hwr => by simp only [execOp, (F8.eval 60 (by omega)).trans (show _ = Value.int .i64 (total * z) from by simp [upd, e0, e7, e10, e11, e13, e14]), (F8.eval 61 (by omega)).trans (show _ = Value.int .i64 S from by simp [upd, e0, e7, e10, e11, e13, e14])]; simp [go_sem, Act.eval, hSne, hwq, hq]) fun F9 => ?_
            refine lyp F9 rfl trivial rfl (by omega) (wanted_none rfl) (v := Value.int .i64 total) (fun wr hwr => by simp only [execOp, (F9.eval 0 (by omega)).trans (show _ = Value.int .i64 total from by simp [upd, e0, e7, e10, e11, e13, e14])]; first | rfl | simp [go_sem]) fun F10 => ?_
            refine lyp F10 rfl trivial rfl (by omega) (wanted_none rfl) (v := Value.int .i64 z) (fun wr hwr => by simp only [execOp, (F10.eval 14 (by omega)).trans (show _ = Value.int .i64 z from by simp [upd, e0, e7, e10, e11, e13, e14])]; first | rfl | simp [go_sem]) fun F11 => ?_
            refine lyp F11 rfl trivial rfl (by omega) (wanted_none rfl) (v := Value.int .i64 (total * z)) (fun wr hwr => by simp only [execOp, (F11.eval 63 (by omega)).trans (show _ = Value.int .i64 total from by simp [upd, e0, e7, e10, e11, e13, e14]), (F11.eval 64 (by omega)).trans (show _ = Value.int .i64 z from by simp [upd, e0, e7, e10, e11, e13, e14])]; simp [go_sem, Act.eval, hwm]) fun F12 => ?_
            refine lyp F12 rfl trivial rfl (by omega) (wanted_none rfl) (v := Value.int .i64 S) (fun wr hwr => by simp only [execOp, (F12.eval 7 (by omega)).trans (show _ = Value.int .i64 S from by simp [upd, e0, e7, e10, e11, e13, e14])]; first | rfl | simp [go_sem]) fun F13 => ?_
            refine lyp F13 rfl trivial rfl (by omega) (wanted_none rfl) (v := Value.int .i64 (total * z % S)) (fun wr hwr => by simp only [execOp, (F13.eval 65 (by omega)).trans (show _ = Value.int .i64 (total * z) from by simp [upd, e0, e7, e10, e11, e13, e14]), (F13.eval 66 (by omega)).trans (show _ = Value.int .i64 S from by simp [upd, e0, e7, e10, e11, e13, e14])]; simp [go_sem, Act.eval, hSne, hwr, hr]) fun F14 => ?_
            refine lyp F14 rfl trivial rfl (by omega) (wanted_none rfl) (v := Value.pointer (some ⟨gp, k, none⟩)) (fun wr hwr => by simp only [execOp, (F14.eval 54 (by omega)).trans (show _ = Value.slice (some ⟨gp, 0, none⟩) n n from by simp [upd, e0, e7, e10, e11, e13, e14]), (F14.eval 55 (by omega)).trans (show _ = Value.int .i64 (k : Int) from by simp [upd, e0, e7, e10, e11, e13, e14])]; simp [go_sem, hlt]) fun F15 => ?_
            refine lst rfl trivial rfl (wanted_none rfl) (w1 := (({ wr with drawn := wr.drawn + 1 } : World)).setCell ⟨gp, k, none⟩ (.int .i64 (total * z / S))) (by simp only [execOp, (F15.eval 68 (by omega)).trans (show _ = Value.pointer (some ⟨gp, k, none⟩) from by simp [upd, e0, e7, e10, e11, e13, e14]), (F15.eval 62 (by omega)).trans (show _ = Value.int .i64 (total * z / S) from by simp [upd, e0, e7, e10, e11, e13, e14])]; simp [go_sem, c1, f1]) ?_
            refine lyp F15 rfl trivial rfl (by omega) (wanted_none rfl) (v := Value.pointer (some ⟨gr, k, none⟩)) (fun wr hwr => by simp only [execOp, (F15.eval 56 (by omega)).trans (show _ = Value.slice (some ⟨gr, 0, none⟩) n n from by simp [upd, e0, e7, e10, e11, e13, e14]), (F15.eval 57 (by omega)).trans (show _ = Value.int .i64 (k : Int) from by simp [upd, e0, e7, e10, e11, e13, e14])]; simp [go_sem, hlt]) fun F16 => ?_
            refine lst rfl trivial rfl (wanted_none rfl) (w1 := ((({ wr with drawn := wr.drawn + 1 } : World)).setCell ⟨gp, k, none⟩ (.int .i64 (total * z / S))).setCell ⟨gr, k, none⟩ (.int .i64 (total * z % S))) (by simp only [execOp, (F16.eval 69 (by omega)).trans (show _ = Value.pointer (some ⟨gr, k, none⟩) from by simp [upd, e0, e7, e10, e11, e13, e14]), (F16.eval 67 (by omega)).trans (show _ = Value.int .i64 (total * z % S) from by simp [upd, e0, e7, e10, e11, e13, e14])]; simp [go_sem, c2', f2']) ?_
            refine ⟨fun _ => trivial, ?_⟩
            refine hK _ _ ?_
            clear F0 F1 F2 F3 F4 F5 F6 F7 F8 F9 F10 F11 F12 F13 F14 F15 F16 e0 e7 e10 e11 e13 e14 
            simp only [Act.put, List.setIfInBounds_toArray, List.set_cons_succ, List.set_cons_zero]
            generalize hY : ((({ wr with drawn := wr.drawn + 1 } : World)).setCell ⟨gp, k, none⟩ (.int .i64 (total * z / S))).setCell ⟨gr, k, none⟩ (.int .i64 (total * z % S)) = Y
            have hY2 : ((wr.drew).setCell ⟨gp, k, none⟩ (.int .i64 (total * z / S))).setCell ⟨gr, k, none⟩ (.int .i64 (total * z % S)) = Y := hY
            rw [hY2] at e2 HD2
            clear hY hY2 c1 c2 f1 f2 e1 c2' f2'
            go_wp2
            go_roundw
            case rel => exact ⟨k + 1, by omega, by go_num, by rw [HS.out]; go_num, HD2⟩
            case measure => simp [intOf]; omega
          · obtain rfl : n = k := by omega
            have hD := HD.out
            rw [mapTo_all _ _ hcl, mapTo_all _ _ hcl, show (cs.map fun z => total * z / S) = parts0 total cs by unfold parts0; rw [HSS.out], show (cs.map fun z => total * z % S) = rests0 total cs by unfold rests0; rw [HSS.out]] at hD
            have hlf : total - ((cs.take n).map fun z => total * z / S).sum = leftOf total cs := by unfold leftOf parts0; rw [HSS.out, List.take_of_length_le (by omega)]
            rw [hlf]
            have hlb := left_bounds total cs HC.out.sum
            rw [hcl] at hlb
            have hrl : (rests0 total cs).length = n := by simp [rests0, hcl]
            have hol := ord_length (rests0 total cs)
            have hdef : dealG total cs = bump (parts0 total cs) ((ord (rests0 total cs)).take (leftOf total cs).toNat) := rfl
            obtain ⟨m, hm⟩ : ∃ m : Nat, leftOf total cs = m := ⟨(leftOf total cs).toNat, by omega⟩
            rw [hm] at hlb hdef ⊢
            rw [Int.toNat_natCast] at hdef
            have hfr := own_from hD.r
            obtain ⟨_, _, er, _, _, _, hfr, _⟩ := hfr
            cases er
            have hby := byRests_any (c := n) wr hrl hfr hp hle
            have hpb : ∀ j, j < n → 0 ≤ at0 (parts0 total cs) j ∧ at0 (parts0 total cs) j ≤ 1152921504606846976 := fun j hj => by
              unfold parts0
              rw [at0_map _ (by omega)]
              obtain ⟨hp0, hp1⟩ := HC.out.ok j hj
              obtain ⟨hm0, hm1⟩ := prod_range ht0 ht1 hp0 hp1
              exact ⟨Int.ediv_nonneg hm0 (Int.le_of_lt HC.out.sum), Int.le_trans (Int.ediv_le_self _ hm0) hm1⟩
            have hpl : (parts0 total cs).length = n := by simp [parts0, hcl]
            have homem : ∀ j, j ∈ ord (rests0 total cs) → j < n := fun j hj => by rw [← hrl]; exact ord_mem.mp hj
            have hond := ord_nodup (rests0 total cs)
            have HDEF : Hid _ := hdef
            have HPB : Hid _ := hpb
            have HOM : Hid _ := homem
            have HON : Hid _ := hond
            have HDD : Hid _ := hD
            clear hlf HD hfr hdef hpb homem hond hD
            generalize ord (rests0 total cs) = od at *
            generalize parts0 total cs = p0 at *
            have hmn : m ≤ n := by omega
            go_wp2_with (go_at_call 20; refine hby.mono ?_; rintro e w2 ⟨v, rfl, hv, hb⟩; obtain ⟨go, cap2, rfl, hcap2, hcm2, hLg2, hgs2, _⟩ := own_form hv hp; have HV2 : Hid (w2.ownsRow wr.heap.size 3 1 (.slice (some ⟨go, 0, none⟩) n cap2) n ((od.map fun (i : Nat) => (i : Int)).map I)) := hv; have HB2 : Hid (Below wr.heap.size wr w2) := hb; clear hv hb hby; have hmc : m ≤ cap2 := by omega)
            have hgpo : gp ≠ go := by
              have := (ownsRow_lt HDD.out.p (g := gp) rfl).2
              omega
            have HE : Hid (DM w.heap.size gc gp gr n cap cs p0 (rests0 total cs) w w2) := HDD.out.same HB2.out
            clear HDD
            go_loopw [82] (fun i w3 => ∃ k : Nat, k ≤ m ∧ i = .int .i64 k ∧ Hid (DM w.heap.size gc gp gr n cap cs (bump p0 (od.take k)) (rests0 total cs) w w3) ∧ Hid (w3.ownsRow wr.heap.size 3 1 (.slice (some ⟨go, 0, none⟩) n cap2) n ((od.map fun (i : Nat) => (i : Int)).map I))) (fun i _ => m - (intOf i).toNat)
            case atStart => exact ⟨0, Nat.zero_le _, rfl, HE, HV2⟩
            case round =>
              clear HE HV2
              obtain ⟨k, hk, rfl, HE, HV⟩ := hrel
              by_cases hlt : k < m
              · have hkn : k < od.length := by omega
                have e1 := own_at HV.out (show k < n by omega)
                rw [at0_lt (by simp; omega), List.getElem_map] at e1
                have hj := HOM.out od[k] (List.getElem_mem hkn)
                have htk : od.take (k + 1) = od.take k ++ [od[k]] := take_snoc od k hkn
                have hbs := bump_snoc p0 (od.take k) od[k]
                rw [← htk] at hbs
                have hv := bump_at p0 (od.take k) (List.Nodup.sublist (List.take_sublist _ _) HON.out) (fun a ha => by rw [hpl]; exact HOM.out a (List.mem_of_mem_take ha)) od[k]
                have hb2 := HPB.out od[k] hj
                have hvb : 0 ≤ at0 (bump p0 (od.take k)) od[k] ∧ at0 (bump p0 (od.take k)) od[k] ≤ 1152921504606846977 := by
                  rw [hv]
                  split <;> omega
                generalize od[k] = j at *
                obtain ⟨D1, f1, c1⟩ := HE.out.setp hj (at0 (bump p0 (od.take k)) j + 1)
                rw [← hbs] at D1
                have HD1 : Hid _ := D1
                have HV1 : Hid _ := own_other (k := j) HV.out hgpo.symm (.int .i64 (at0 (bump p0 (od.take k)) j + 1))
                clear D1 hbs hv htk HE HV hb2
                generalize at0 (bump p0 (od.take k)) j = x at *
                go_wp2
                go_roundw
                case rel => exact ⟨k + 1, by omega, by go_num, HD1, HV1⟩
                case measure => simp [intOf]; omega
              · obtain rfl : m = k := by omega
                go_wp2
                go_ret2
                refine ⟨_, rfl, ?_, HE.out.below⟩
                rw [HDEF.out]
                exact HE.out.p
theorem dealG_length {total : Int} {cs : List Int} : (dealG total cs).length = cs.length := by unfold dealG; rw [bump_length]; simp [parts0]
set_option maxRecDepth 100000 in
set_option maxHeartbeats 1600000 in
/-- Deal, whatever is handed in. -/
theorem deal_any {ao : Option Addr} {n c : Nat} {ws : List Int} (total : Int) (w : World) (hl : ws.length = n) (hx : FromI w ao ws) (hn : n ≤ maxLen) :
    Calls Try.prog 13 #[.int .i64 total, .slice ao n c] w fun r w' => ∃ v, r = .returned (.tuple #[v, .int .i64 (dealC total ws)]) ∧ w'.ownsRow w.heap.size 3 1 v (dealL total ws).length ((dealL total ws).map I) ∧ Below w.heap.size w w' := by
  by_cases h1 : total < 0
  · have e : okD total ws = false := by simp [okD]; omega
    rw [show dealC total ws = 1 by simp [dealC, e], show dealL total ws = [] by simp [dealL, e]]
    clear hx
    go_enter Try.func13, Try.ntmps13
    go_wp2
    go_ret2
    exact ⟨_, rfl, World.ownsRow_nil _ _ _ _, Below.refl _ _⟩
  · by_cases h2 : 1099511627776 < total
    · have e : okD total ws = false := by simp [okD]; omega
      rw [show dealC total ws = 1 by simp [dealC, e], show dealL total ws = [] by simp [dealL, e]]
      clear hx
      go_enter Try.func13, Try.ntmps13
      go_wp2
      go_ret2
      exact ⟨_, rfl, World.ownsRow_nil _ _ _ _, Below.refl _ _⟩
    · by_cases h3 : rightW ws = true
      · have e : okD total ws = true := by simp [okD, h3]; omega
        rw [show dealC total ws = 0 by simp [dealC, e], show dealL total ws = dealG total (cnt ws) by simp [dealL, e], dealG_length, cnt_length, hl]
        have hC := cnt_ok h3
        obtain ⟨b, off, rfl, _⟩ := hx (by have := hC.pos; omega)
        exact deal_ok total (by omega) (by omega) w hl hx h3
      · have h3' : rightW ws = false := by simpa using h3
        have e : okD total ws = false := by simp [okD, h3']
        rw [show dealC total ws = 1 by simp [dealC, e], show dealL total ws = [] by simp [dealL, e]]
        have hrc := right_any (c := c) w hl hx hn
        rw [h3'] at hrc
        clear hx e h3
        go_enter Try.func13, Try.ntmps13
        go_wp2_with (go_at_call 18; refine hrc.mono ?_; rintro e w' ⟨rfl, hw⟩; have hw2 := hw.symm; subst hw2; clear hw hrc)
        go_ret2
        exact ⟨_, rfl, World.ownsRow_nil _ _ _ _, Below.refl _ _⟩
end Go.Proofs.Ytgohjkamikpdcaa
