import Derived.Test.YtjpdcahodmomgaaJt8
import Derived.Deep.Cut
namespace Go.Proofs.Ytjpdcahodmomgaa
open Go.RowKit Go.PlainAid
set_option linter.unusedVariables false
set_option linter.unusedSimpArgs false
def lifeC (rv : Value) (af tn : Int) (idle : Bool) : Array Value := #[rv, .int .i64 af, .int .i64 tn, .bool idle]
/-- What a life leaves. -/
structure LfO (L tb p s n0 W0 : Nat) (lo : List (Value × List UInt8)) (R : List (Ent L)) (w : World) (ds : List (Value × List UInt8)) (pv : Value) (perh : Bool) (mv : Value) (hi : List (Value × List UInt8)) (x : DV) (w' : World) : Prop where
  h : Held (dmE L p s x :: (taleE L tb p mv lo hi ++ R)) w'
  b : Below L w w'
  n : x.n = n0
  writes : x.writes ≤ W0 + 100
  inv : (perh = false ∧ pv = .slice none 0 0 ∧ Inv x.b n0 (mustL lo hi)) ∨ (perh = true ∧ ∃ d ∈ ds, pv = d.1 ∧ d.2.length ≤ 8192 ∧ (Inv x.b n0 (mustL lo hi) ∨ Inv x.b n0 (mustL lo hi ++ [d.2])))
theorem tornN_le (t : Int) : tornN t ≤ 512 := by unfold tornN; omega
theorem arm_facts (x : DV) (a t : Int) (ha : a ≤ 9223372036854775807) : (x.arm a t).n = x.n ∧ (x.arm a t).b = x.b ∧ (x.arm a t).off = x.off ∧ (x.arm a t).writes = x.writes ∧ (x.arm a t).torn ≤ 512 ∧ (x.arm a t).whole ≤ 9223372036854775807 ∧ ((x.arm a t).armed = true → 0 ≤ a) := by
  unfold DV.arm
  split
  · exact ⟨rfl, rfl, rfl, rfl, Nat.zero_le _, Nat.zero_le _, fun e => by cases e⟩
  · exact ⟨rfl, rfl, rfl, rfl, tornN_le t, by show a.toNat ≤ _; omega, fun _ => by omega⟩
section
variable {L tb jb p s n0 W0 : Nat} {af : Int} {lo hi : List (Value × List UInt8)} {mv : Value} {R : List (Ent L)} {w : World} {y : JV} {x : DV}
theorem LI.tale {wr : World} {must : List (List UInt8)} (h : LI L jb p s n0 W0 af (taleE L tb p mv lo hi ++ R) w y x must wr) : Held (taleE L tb p mv lo hi ++ (y.es L jb ++ (dmE L p s x :: R))) wr := h.h.perm (perm_tale ..)
theorem LI.box {wr : World} {must : List (List UInt8)} {H : Nat} {C : Array Value} (h : LI L jb p s n0 W0 af (taleE L tb p mv lo hi ++ (boxE L H C 51 :: R)) w y x must wr) : Blk wr H C 51 := (h.h.all (boxE L H C 51) (by simp)).1
theorem LI.held {wr : World} {must : List (List UInt8)} {e : Ent L} (h : LI L jb p s n0 W0 af (taleE L tb p mv lo hi ++ (e :: R)) w y x must wr) : Held R wr := (Held.tailR (Held.drop (Held.tailR h.h))).drop
theorem mustCell {wr : World} {Q : List (Ent L)} (h : Held (taleE L tb p mv lo hi ++ Q) wr) : ∃ ro rc, mv = .slice ro (lo ++ hi).length rc ∧ wr.cell? ⟨tb, 1, none⟩ = some (.slice ro (lo ++ hi).length rc) ∧ wr.cell? ⟨tb, 0, none⟩ = some (.pointer (some ⟨p, 0, none⟩)) := by
  obtain ⟨ro, rc, e⟩ := tail_val (tale_row h)
  exact ⟨ro, rc, e, ((tale_box h).cell 1).trans (congrArg some e), (tale_box h).cell 0⟩
set_option maxRecDepth 100000 in
set_option maxHeartbeats 25600000 in
theorem life_any {rv : Value} {ds : List (Value × List UInt8)} (tn : Int) (idle : Bool) (w : World) (h : Held (y.es L jb ++ (dmE L p s x :: (taleE L tb p mv lo hi ++ R))) w) (hp : y.p = p) (hfin : y.fin = x.n) (hrecs : y.recs.map Prod.snd = mustL lo hi) (hnext : y.next = (itR x.b (mustL lo hi).length).2) (hinv : Inv x.b x.n (mustL lo hi)) (h60 : x.n ≤ 60) (hoff : x.off = false) (hw0 : x.writes ≤ 800000000000000000) (haf : af ≤ 9223372036854775807) (hrec : ∀ W, Below L w W → Held R W → RowsV W rv ds) (hds : ∀ d ∈ ds, d.2.length ≤ 140737488351232) (hN : ds.length ≤ 9223372036854775807) :
    Calls Try.prog 21 #[.pointer (some ⟨tb, 0, none⟩), .pointer (some ⟨jb, 0, none⟩), .agg (lifeC rv af tn idle)] w fun e w' => ∃ pv perh mv' hi' x', e = .returned (.tuple #[pv, .bool perh, .bool true]) ∧ LfO L tb p s x.n x.writes lo R w ds pv perh mv' hi' x' w' := by
  obtain ⟨H, hH⟩ : ∃ H, H = w.heap.size := ⟨_, rfl⟩
  obtain ⟨n0, hn0⟩ : ∃ n0, n0 = x.n := ⟨_, rfl⟩
  obtain ⟨W0, hW0⟩ : ∃ W0, W0 = x.writes := ⟨_, rfl⟩
  obtain ⟨N, hNN⟩ : ∃ N, N = ds.length := ⟨_, rfl⟩
  have hL : L ≤ w.heap.size := jlow h
  obtain ⟨ro0, rc0, hrv, _⟩ := hrec w (Below.refl _ _) (Held.tailR (Held.drop (Held.tailR h)))
  rw [← hNN] at hrv hN
  obtain ⟨w1, hw1⟩ : ∃ w1, w1 = w.alloc (.cells (lifeC rv af tn idle) 51) := ⟨_, rfl⟩
  have hb1 : Below w.heap.size w w1 := by rw [hw1]; exact (Below.refl _ _).alloc (Nat.le_refl _) _
  have hB1 : Blk w1 H (lifeC rv af tn idle) 51 := by rw [hw1, hH]; exact heap_alloc_new w _
  have h1 : Held (y.es L jb ++ (dmE L p s x :: (taleE L tb p mv lo hi ++ (boxE L H (lifeC rv af tn idle) 51 :: R)))) w1 := by
    have h2 : Held (boxE L H (lifeC rv af tn idle) 51 :: (y.es L jb ++ (dmE L p s x :: (taleE L tb p mv lo hi ++ R)))) w1 := Held.fresh h hb1 ⟨hB1, by rw [hH]; exact hL⟩ (fun k hk => by have : k = H := hk; omega)
    refine h2.perm ?_
    have := (List.perm_middle (a := boxE L H (lifeC rv af tn idle) 51) (l₁ := y.es L jb ++ (dmE L p s x :: taleE L tb p mv lo hi)) (l₂ := R)).symm
    simpa [List.append_assoc] using this
  have HRC : Hid (∀ W, Below L w W → Held R W → RowsV W rv ds) := hrec
  have HDS : Hid (∀ d ∈ ds, d.2.length ≤ 140737488351232) := hds
  have HN : Hid (N = ds.length ∧ N ≤ 9223372036854775807 ∧ rv = .slice ro0 N rc0 ∧ L ≤ H) := ⟨hNN, hN, hrv, by rw [hH]; exact hL⟩
  have HBB : Hid (Below L w w1 ∧ L ≤ w1.heap.size) := ⟨hb1.mono hL, Nat.le_trans hL hb1.size⟩
  have haf' := arm_facts x af tn haf
  have hd1 : DM L p s x w1 := h1.all (dmE L p s x) (by simp)
  have HAR : Hid (∀ W, (∃ q, W = w1.drewN q) → Calls Try.prog 22 #[.pointer (some ⟨p, 0, none⟩), .int .i64 af, .int .i64 tn] W fun e w' => e = .returned (.tuple #[]) ∧ DM L p s (x.arm af tn) w' ∧ Chg (fun k => k = p) w1 w') := fun W hW => by
    obtain ⟨q, rfl⟩ := hW
    refine (arm_on af tn (w1.drewN q) ⟨hd1.box, hd1.sec, hd1.lo, hd1.nb⟩ hoff haf).mono ?_
    rintro e w' ⟨e1, e2, e3⟩
    exact ⟨e1, e2, ⟨e3.os, e3.tape, e3.output, e3.size, e3.block⟩⟩
  have HSt : Hid (∀ wy, DM L p s (x.arm af tn) wy → Chg (fun k => k = p) w1 wy → LI L jb p s n0 W0 af (taleE L tb p mv lo hi ++ (boxE L H (lifeC rv af tn idle) 51 :: R)) w y (x.arm af tn) (mustL lo hi) wy) := fun wy k1 k2 => by
    refine ⟨held_disk (es := y.es L jb) h1 k1 (k2.mono (fun _ _ e => Or.inl e)), (hb1.mono hL).trans (k2.below (Nat.le_trans hL hb1.size) (fun k e => by rw [e]; exact (hd1.lt (Or.inl rfl)).1)), hp, by rw [hfin, hn0], hrecs, by rw [haf'.2.1]; exact hnext, by rw [haf'.2.1, hn0]; exact hinv, by rw [haf'.1, hn0], by omega, by rw [haf'.2.2.1]; exact hoff, haf'.2.2.2.2.1, haf'.2.2.2.2.2.1, by rw [haf'.2.2.2.1]; omega, by omega, haf'.2.2.2.2.2.2⟩
  have c0 : w1.cell? ⟨tb, 0, none⟩ = some (.pointer (some ⟨p, 0, none⟩)) := (tale_box (h1.perm (perm_tale ..))).cell 0
  have cH1 : w1.cell? ⟨H, 1, none⟩ = some (.int .i64 af) := hB1.cell 1
  have cH2 : w1.cell? ⟨H, 2, none⟩ = some (.int .i64 tn) := hB1.cell 2
  rw [← hn0, ← hW0]
  clear h hp hfin hrecs hnext hinv h60 hoff hw0 haf hrec hds hN hb1 hB1 h1 haf' hd1 hn0 hW0 hNN hrv hL
  go_enter Try.func21, Try.ntmps21
  go_upto_region 1 with fail
  rw [← hw1, ← hH]
  clear hw1 hH
  go_cut [] from 13 to 142 (fun wy => ∃ xa, LI L jb p s n0 W0 af (taleE L tb p mv lo hi ++ (boxE L H (lifeC rv af tn idle) 51 :: R)) w y xa (mustL lo hi) wy)
  case first =>
    go_region_with (go_at_call 22; refine Calls.mono (HAR.out _ (by first | exact ⟨0, rfl⟩ | exact ⟨1, rfl⟩)) ?_; rintro e w2 ⟨rfl, k1, k2⟩)
    all_goals
      have HX : Hid (∃ xa, LI L jb p s n0 W0 af (taleE L tb p mv lo hi ++ (boxE L H (lifeC rv af tn idle) 51 :: R)) w y xa (mustL lo hi) w2) := ⟨_, HSt.out w2 k1 k2⟩
      clear k1 k2
      go_wp2_with fail
      go_meet
      case rel => exact HX.out
  case rest =>
    obtain ⟨xa, hcut⟩ := hcut
    have HC0 : Hid (LI L jb p s n0 W0 af (taleE L tb p mv lo hi ++ (boxE L H (lifeC rv af tn idle) 51 :: R)) w y xa (mustL lo hi) wc) := hcut
    clear hcut HAR HSt c0 cH1 cH2 HBB
    go_wp2_with fail
    go_loopw [9] (fun s9 wr => ∃ i : Nat, i ≤ N ∧ s9 = .int .i64 (i : Int) ∧ ∃ y x mv hi, LI L jb p s n0 W0 af (taleE L tb p mv lo hi ++ (boxE L H (lifeC rv af tn idle) 51 :: R)) w y x (mustL lo hi) wr) (fun s9 _ => N - (intOf s9).toNat)
    case atStart => exact ⟨0, Nat.zero_le _, rfl, _, _, _, _, HC0.out⟩
    case round =>
      clear HC0
      obtain ⟨i, hi0, rfl, y, x, mv, hi, hI⟩ := hrel
      have hNn := HN.out.2.1
      have cH0 : wr.cell? ⟨H, 0, none⟩ = some (.slice ro0 N rc0) := (hI.box.cell 0).trans (congrArg some HN.out.2.2.1)
      by_cases hlt : i < N
      · have hlti : (i : Int) < (N : Int) := by omega
        obtain ⟨d, hd⟩ : ∃ d, ds[i]? = some d := ⟨_, List.getElem?_eq_getElem (by have := HN.out.1; omega)⟩
        have hrvw := HRC.out wr hI.b hI.held
        obtain ⟨ao, c, hv, hrow⟩ := hrvw
        obtain ⟨⟨b1, off1, hao, hcell⟩, hby⟩ := hrow i d hd
        rw [HN.out.2.2.1] at hv
        obtain ⟨hv1, _, _⟩ := Value.slice.inj hv
        rw [← hv1] at hao
        clear hv hv1
        subst hao
        obtain ⟨uo, n, uc, hdf⟩ := hby.form
        have hdn : d.2.length = n := by
          obtain ⟨_, _, _, e1, e2, _⟩ := hby
          rw [hdf] at e1
          cases e1
          exact e2
        have hdm := HDS.out d (List.mem_of_getElem? hd)
        have HDM : Hid (d ∈ ds) := List.mem_of_getElem? hd
        have HSB : Hid (∀ W, Below L w W → Held R W → By W (.slice uo n uc) d.2) := fun W hW hR => by
          obtain ⟨_, _, _, hr2⟩ := HRC.out W hW hR
          have := (hr2 i d hd).2
          rw [hdf] at this
          exact this
        obtain ⟨dv, bs⟩ := d
        subst hdf
        have hn14 : n ≤ 140737488351232 := by rw [← hdn]; exact hdm
        have HRM : Hid _ := hI.room
        have HBL : Hid (bs.length = n) := hdn
        have HI0 : Hid (LI L jb p s n0 W0 af (taleE L tb p mv lo hi ++ (boxE L H (lifeC rv af tn idle) 51 :: R)) w y x (mustL lo hi) wr) := hI
        have hle := hI.le
        have h60 := hI.n60
        clear hI hby hrow hd hdm hdn
        go_wp2_with fail
        refine Calls.mono HRM.out ?_
        rintro e w2 ⟨rfl, q, hq⟩
        have hI2 : LI L jb p s n0 W0 af (taleE L tb p mv lo hi ++ (boxE L H (lifeC rv af tn idle) 51 :: R)) w y x (mustL lo hi) w2 := by rw [hq]; exact HI0.out.drewN q
        have HI2 : Hid (LI L jb p s n0 W0 af (taleE L tb p mv lo hi ++ (boxE L H (lifeC rv af tn idle) 51 :: R)) w y x (mustL lo hi) w2) := hI2
        have hln := lent_any w2 (HSB.out w2 hI2.b hI2.held) (by rw [HBL.out]; omega)
        rw [HBL.out] at hln
        have HLN : Hid _ := hln
        obtain ⟨rm, hrm⟩ : ∃ rm, rm = n0 - y.next := ⟨_, rfl⟩
        have HRR : Hid (rm = n0 - y.next ∧ rm ≤ 60) := ⟨hrm, by omega⟩
        have hrm60 : rm ≤ 60 := by omega
        rw [← hrm]
        clear hI2 hln hrm hle h60 hq HRM HI0 cH0 hcell
        go_wp2_with fail
        refine Calls.mono HLN.out ?_
        rintro e w3 ⟨g, cc, rfl, hcc, hown, hb3⟩
        clear HLN
        have hsl : ∀ W, (Instr.sliceAt 38 (.slice (some ⟨g, 0, none⟩) (n + 2) cc) none (some (.int .i64 (n : Int))) none).run Try.prog W = .ok (.slice (some ⟨g, 0, none⟩) n cc) W := fun W => slice38h g 0 (n + 2) cc n (by omega) W
        have HAP : Hid _ := HI2.out.append w3 hb3 hown HBL.out hcc (by omega)
        clear hown hb3 hcc HI2
        go_wp2_with fail
        refine Calls.mono HAP.out ?_
        rintro e w4 hA
        clear HAP hsl
        rcases hA with ⟨hn8, rfl, hI4⟩ | ⟨hn8, hrm17, rfl, hI4⟩ | ⟨hn8, rfl, y4, x4, hnx4, hI4⟩ | ⟨hn8, haf0, rfl, x4, hoff4, hn4, hwr4, hH4, hb4, hinv4⟩
        · obtain ⟨mo1, mc1, hmv1, d1, d0⟩ := mustCell hI4.tale
          have hmm1 : ((((lo ++ hi).length : Nat) : Int) != (((lo ++ hi).length : Nat) : Int)) = false := by simp
          have HI4 : Hid (LI L jb p s n0 W0 af (taleE L tb p mv lo hi ++ (boxE L H (lifeC rv af tn idle) 51 :: R)) w y x (mustL lo hi) w4) := hI4
          have HLE : Hid (∀ q, Calls Try.prog 31 #[.pointer (some ⟨jb, 0, none⟩)] (w4.drewN q) fun e w' => e = .returned (.int .i64 (((lo ++ hi).length : Nat) : Int)) ∧ w' = w4.drewN q) := fun q => by
            have := (hI4.drewN q).lenC
            rw [mustL_len] at this
            exact this
          have HDE : Hid (∀ q, Calls Try.prog 43 #[.pointer (some ⟨jb, 0, none⟩)] (w4.drewN q) fun e w' => e = .returned (.bool false) ∧ w' = w4.drewN q) := fun q => (hI4.drewN q).dead
          have hn8i : (8192 : Int) < (n : Int) := by omega
          have hn8j : ¬ (n : Int) ≤ 8192 := by omega
          clear hI4 d0
          go_wp2_with fail
          refine Calls.mono (num_any _ _) ?_
          rintro e wn ⟨rfl, hwn⟩
          replace hwn := hwn.symm
          subst hwn
          go_wp2_with fail
          refine Calls.mono (num_any _ _) ?_
          rintro e wn ⟨rfl, hwn⟩
          replace hwn := hwn.symm
          subst hwn
          go_wp2_with fail
          go_quiet (first | (go_at_call 43; refine Calls.quiet_of_same (HDE.out _)) | (go_at_call 31; refine Calls.quiet_of_same (HLE.out _)))
          have HNX : Hid (∃ y x mv hi, LI L jb p s n0 W0 af (taleE L tb p mv lo hi ++ (boxE L H (lifeC rv af tn idle) 51 :: R)) w y x (mustL lo hi) (w4.drewN nq)) := ⟨_, _, _, _, HI4.out.drewN nq⟩
          generalize w4.drewN nq = wz at HNX ⊢
          clear d1 HLE HDE HI4
          go_wp2_with fail
          go_roundw
          case rel => exact ⟨i + 1, by omega, by go_num, HNX.out⟩
          case measure => simp [intOf]; omega
        · have hn8i : ¬ (8192 : Int) < (n : Int) := by omega
          have hn8j : (n : Int) ≤ 8192 := by omega
          have hr17 : ¬ (17 : Int) ≤ (rm : Int) := by have := HRR.out; omega
          have HRM2 : Hid _ := hI4.room
          rw [← HRR.out.1] at HRM2
          have hrme : ((rm : Int) != (rm : Int)) = false := by simp
          have HI3 : Hid (LI L jb p s n0 W0 af (taleE L tb p mv lo hi ++ (boxE L H (lifeC rv af tn idle) 51 :: R)) w y x (mustL lo hi) w4) := hI4
          clear hI4
          go_wp2_with fail
          refine Calls.mono (num_any _ _) ?_
          rintro e wn ⟨rfl, hwn⟩
          replace hwn := hwn.symm
          subst hwn
          go_wp2_with fail
          refine Calls.mono (num_any _ _) ?_
          rintro e wn ⟨rfl, hwn⟩
          replace hwn := hwn.symm
          subst hwn
          go_wp2_with fail
          refine Calls.mono HRM2.out ?_
          rintro e w5 ⟨rfl, q, hq⟩
          have hI5 : LI L jb p s n0 W0 af (taleE L tb p mv lo hi ++ (boxE L H (lifeC rv af tn idle) 51 :: R)) w y x (mustL lo hi) w5 := by rw [hq]; exact HI3.out.drewN q
          clear HRM2 hq HI3
          obtain ⟨mo1, mc1, hmv1, d1, d0⟩ := mustCell hI5.tale
          have hmm1 : ((((lo ++ hi).length : Nat) : Int) != (((lo ++ hi).length : Nat) : Int)) = false := by simp
          have HI5 : Hid (LI L jb p s n0 W0 af (taleE L tb p mv lo hi ++ (boxE L H (lifeC rv af tn idle) 51 :: R)) w y x (mustL lo hi) w5) := hI5
          have HLE : Hid (∀ q, Calls Try.prog 31 #[.pointer (some ⟨jb, 0, none⟩)] (w5.drewN q) fun e w' => e = .returned (.int .i64 (((lo ++ hi).length : Nat) : Int)) ∧ w' = w5.drewN q) := fun q => by
            have := (hI5.drewN q).lenC
            rw [mustL_len] at this
            exact this
          have HDE : Hid (∀ q, Calls Try.prog 43 #[.pointer (some ⟨jb, 0, none⟩)] (w5.drewN q) fun e w' => e = .returned (.bool false) ∧ w' = w5.drewN q) := fun q => (hI5.drewN q).dead
          clear hI5 d0
          go_wp2_with fail
          go_quiet (first | (go_at_call 43; refine Calls.quiet_of_same (HDE.out _)) | (go_at_call 31; refine Calls.quiet_of_same (HLE.out _)))
          have HNX : Hid (∃ y x mv hi, LI L jb p s n0 W0 af (taleE L tb p mv lo hi ++ (boxE L H (lifeC rv af tn idle) 51 :: R)) w y x (mustL lo hi) (w5.drewN nq)) := ⟨_, _, _, _, HI5.out.drewN nq⟩
          generalize w5.drewN nq = wz at HNX ⊢
          clear d1 HLE HDE HI5
          go_wp2_with fail
          go_roundw
          case rel => exact ⟨i + 1, by omega, by go_num, HNX.out⟩
          case measure => simp [intOf]; omega
        · have hn8i : ¬ (8192 : Int) < (n : Int) := by omega
          have HRM2 : Hid _ := hI4.room
          have hle4 := hI4.le
          have hrlt : ¬ (rm : Int) ≤ ((n0 - y4.next : Nat) : Int) := by have := HRR.out; omega
          have HLIM : Hid (bs.length ≤ 140737488355328 ∧ (lo ++ hi).length ≤ 60) := by
            have h1 := hle4.1
            have h2 := hI4.n60
            rw [List.length_append, mustL_len] at h1
            refine ⟨by rw [HBL.out]; omega, ?_⟩
            have : (lo ++ hi).length + 1 ≤ y4.next := h1
            omega
          obtain ⟨rm4, hrm4⟩ : ∃ rm4 : Nat, rm4 = n0 - y4.next := ⟨_, rfl⟩
          rw [← hrm4] at hrlt HRM2
          have HI3 : Hid (LI L jb p s n0 W0 af (taleE L tb p mv lo hi ++ (boxE L H (lifeC rv af tn idle) 51 :: R)) w y4 x4 (mustL lo hi ++ [bs]) w4) := hI4
          clear hI4 hle4 hrm4 hnx4
          go_wp2_with fail
          refine Calls.mono HRM2.out ?_
          rintro e w5 ⟨rfl, q, hq⟩
          have hI5 : LI L jb p s n0 W0 af (taleE L tb p mv lo hi ++ (boxE L H (lifeC rv af tn idle) 51 :: R)) w y4 x4 (mustL lo hi ++ [bs]) w5 := by rw [hq]; exact HI3.out.drewN q
          have HI5 : Hid (LI L jb p s n0 W0 af (taleE L tb p mv lo hi ++ (boxE L H (lifeC rv af tn idle) 51 :: R)) w y4 x4 (mustL lo hi ++ [bs]) w5) := hI5
          clear HRM2 hq HI3
          have hT5 := hI5.tale
          obtain ⟨ro, rc, hmv, d1, d0⟩ := mustCell hT5
          obtain ⟨m, hm⟩ : ∃ m, m = (lo ++ hi).length := ⟨_, rfl⟩
          rw [← hm] at hmv d1 HLIM
          have HMM : Hid (m = (lo ++ hi).length) := hm
          have HLX : Hid (L ≤ w5.heap.size) := jlow hI5.h
          have HCX : Hid (w5.cell? ⟨tb, 1, none⟩ = some (Value.slice ro m rc) ∧ By w5 (Value.slice uo n uc) bs) := ⟨d1, HSB.out w5 hI5.b hI5.held⟩
          have HHE : Hid (Held (tailE L 38 (Value.slice ro m rc) m ((lo ++ hi).map Prod.fst) :: boxE L tb #[.pointer (some ⟨p, 0, none⟩), Value.slice ro m rc] 48 :: (hi.map (datE L) ++ (y4.es L jb ++ (dmE L p s x4 :: (boxE L H (lifeC rv af tn idle) 51 :: R))))) w5) := by
            have := tale_open hT5
            rw [← hm, hmv] at this
            exact this
          have HCX9 : Hid (∀ {w8 : World} {v8 v6 : Value} {n8 : Nat} {xs8 : List Value}, Held (tailE L 38 v8 n8 xs8 :: boxE L tb #[.pointer (some ⟨p, 0, none⟩), Value.slice ro m rc] 48 :: datE L (v6, bs) :: (hi.map (datE L) ++ (y4.es L jb ++ (dmE L p s x4 :: (boxE L H (lifeC rv af tn idle) 51 :: R))))) w8 → Below L w5 w8 → By w8 (Value.slice uo n uc) bs) := fun h8 hb8 => HSB.out _ (HI5.out.b.trans hb8) (Held.tailR (Held.tailR h8.drop.drop.drop)).drop.drop
          clear hI5 hT5 hmv d1 d0 hm
          go_wp2_with fail
          rename_i K hK hcnd
          try rw [show ∀ a : Act, a.put none undef = a from fun _ => rfl]
          refine wp_region_mix (fun wz : World => wz.cell? ⟨tb, 1, none⟩ = some (Value.slice ro m rc) ∧ By wz (Value.slice uo n uc) bs) (fun i => i == 6 || i == 7 || i == 8 || i == 11) 11 (by kernel_rfl) rfl (by kernel_rfl) (by kernel_rfl) (by kernel_rfl) ?_
          refine withFrP (N := 143) rfl ?_
          intro f0 F0 hff
          have ee0 : f0 0 = Value.pointer (some ⟨tb, 0, none⟩) := hff 0
          have ee1 : f0 10 = Value.slice uo n uc := hff 10
          clear hff
          have HCC : (fun wz : World => wz.cell? ⟨tb, 1, none⟩ = some (Value.slice ro m rc) ∧ By wz (Value.slice uo n uc) bs) ({ w5 with drawn := w5.drawn + 1 } : World) := HCX.out
          have HHX : Held (tailE L 38 (Value.slice ro m rc) m ((lo ++ hi).map Prod.fst) :: boxE L tb #[.pointer (some ⟨p, 0, none⟩), Value.slice ro m rc] 48 :: (hi.map (datE L) ++ (y4.es L jb ++ (dmE L p s x4 :: (boxE L H (lifeC rv af tn idle) 51 :: R))))) ({ w5 with drawn := w5.drawn + 1 } : World) := HHE.out.keep (fun _ _ => rfl)
          refine lyp F0 rfl HCC rfl (by omega) (wanted_none rfl) (v := Value.pointer (some ⟨tb, 0, none⟩)) (fun wr hwr => by simp only [execOp, (F0.eval 0 (by omega)).trans (show _ = Value.pointer (some ⟨tb, 0, none⟩) from by simp [upd, ee0, ee1])]; first | rfl | simp [go_sem]) fun F1 => ?_
          refine lyp F1 rfl HCC rfl (by omega) (wanted_none rfl) (v := Value.pointer (some ⟨tb, 0, none⟩)) (fun wr hwr => by simp only [execOp, (F1.eval 0 (by omega)).trans (show _ = Value.pointer (some ⟨tb, 0, none⟩) from by simp [upd, ee0, ee1])]; first | rfl | simp [go_sem]) fun F2 => ?_
          refine lyp F2 rfl HCC rfl (by omega) (wanted_none rfl) (v := Value.pointer (some ⟨tb, 0, none⟩)) (fun wr hwr => by simp only [execOp, (F2.eval 56 (by omega)).trans (show _ = Value.pointer (some ⟨tb, 0, none⟩) from by simp [upd, ee0, ee1])]; simp [go_sem]) fun F3 => ?_
          refine lyp F3 rfl HCC rfl (by omega) (wanted_none rfl) (v := Value.pointer (some ⟨tb, 1, none⟩)) (fun wr hwr => by simp only [execOp, (F3.eval 57 (by omega)).trans (show _ = Value.pointer (some ⟨tb, 0, none⟩) from by simp [upd, ee0, ee1])]; simp [go_sem]) fun F4 => ?_
          refine lyp F4 rfl HCC rfl (by omega) (wanted_none rfl) (v := Value.slice ro m rc) (fun wr hwr => by simp only [execOp, (F4.eval 58 (by omega)).trans (show _ = Value.pointer (some ⟨tb, 1, none⟩) from by simp [upd, ee0, ee1])]; simp [go_sem, hwr.1]) fun F5 => ?_
          refine lyp F5 rfl HCC rfl (by omega) (wanted_none rfl) (v := Value.slice uo n uc) (fun wr hwr => by simp only [execOp, (F5.eval 10 (by omega)).trans (show _ = Value.slice uo n uc from by simp [upd, ee0, ee1])]; first | rfl | simp [go_sem]) fun F6 => ?_
          obtain ⟨v6, w6, hr6, ho6, hg6⟩ := by_copy HCC.2 HLIM.out.1
          have hb6 : Below w5.heap.size ({ w5 with drawn := w5.drawn + 1 } : World) w6 := hg6
          have HC6 : (fun wz : World => wz.cell? ⟨tb, 1, none⟩ = some (Value.slice ro m rc) ∧ By wz (Value.slice uo n uc) bs) w6 := ⟨(hb6.cell (World.block_lt_of_cell? _ _ HCC.1)).trans HCC.1, HCC.2.keep hb6⟩
          have HH6 : Held (tailE L 38 (Value.slice ro m rc) m ((lo ++ hi).map Prod.fst) :: boxE L tb #[.pointer (some ⟨p, 0, none⟩), Value.slice ro m rc] 48 :: datE L (v6, bs) :: (hi.map (datE L) ++ (y4.es L jb ++ (dmE L p s x4 :: (boxE L H (lifeC rv af tn idle) 51 :: R))))) w6 := held_third (Held.fresh HHX hb6 (show w6.ownsRow L 5 1 v6 bs.length (bs.map B) from ownsRow_mono ho6 HLX.out) (fun k hk => (ownsRow_lt ho6 hk).1))
          have hL6 : L ≤ w6.heap.size := Nat.le_trans HLX.out hb6.size
          obtain ⟨vo6, vc6, hv6, _⟩ := own_slice ho6
          subst hv6
          refine lep F6 rfl HCC rfl (by omega) (wanted_none rfl) (v := Value.slice vo6 bs.length vc6) (w1 := w6) (by simp only [execOp, resolve, invoke, builtin, List.map_toArray, List.map_cons, List.map_nil, show ∀ (a : Act) (v : Value), a.eval (.const v) = v from fun _ _ => rfl, (F6.eval 60 (by omega)).trans (show _ = Value.slice uo n uc from by simp [upd, ee0, ee1])]; simp only [Sem.run_bind, Sem.run_pure, Result.andThen_ok, hr6]; try rfl) fun F7 => ?_
          refine lep F7 rfl HC6 rfl (by omega) (wanted_none rfl) (v := Value.slice (some ⟨w6.heap.size, 0, none⟩) 1 1) (w1 := (w6.alloc (.cells #[Value.slice vo6 bs.length vc6] 38))) (by simp only [execOp, List.map_toArray, List.map_cons, List.map_nil, (F7.eval 61 (by omega)).trans (show _ = Value.slice vo6 bs.length vc6 from by simp [upd, ee0, ee1])]; simp [go_sem]) fun F8 => ?_
          have hbY : Below w6.heap.size w6 (w6.alloc (.cells #[Value.slice vo6 bs.length vc6] 38)) := Below.alloc (Below.refl w6.heap.size w6) (Nat.le_refl _) _
          have HCY : (fun wz : World => wz.cell? ⟨tb, 1, none⟩ = some (Value.slice ro m rc) ∧ By wz (Value.slice uo n uc) bs) (w6.alloc (.cells #[Value.slice vo6 bs.length vc6] 38)) := ⟨(hbY.cell (World.block_lt_of_cell? _ _ HC6.1)).trans HC6.1, HC6.2.keep hbY⟩
          obtain ⟨v8, w8, hr8, hH8, hc8, ⟨ao8, c8, hv8⟩, hat8⟩ := HH6.tailApp (t := 30) Try.underlying30 info30 rfl (Value.slice vo6 bs.length vc6) rfl (by have := HLIM.out.2; omega) (by have := HLIM.out.2; omega) hL6
          have hB8 : Blk w8 tb #[.pointer (some ⟨p, 0, none⟩), Value.slice ro m rc] 48 := hH8.drop.boxB
          have hb8 : Below L w5 w8 := ((below_dr (Below.refl L w5) 1).trans (hb6.mono HLX.out)).trans (hc8.below hL6 (fun k hk => (tail_lt (HH6.all (tailE L 38 (Value.slice ro m rc) m ((lo ++ hi).map Prod.fst)) (List.mem_cons_self ..)) k hk).1))
          have HC9 : (fun wz : World => wz.cell? ⟨tb, 1, none⟩ = some (Value.slice ro m rc) ∧ By wz (Value.slice uo n uc) bs) w8 := ⟨hB8.cell 1, HCX9.out hH8 hb8⟩
          subst hv8
          refine lep F8 rfl HCY rfl (by omega) (wanted_none rfl) (v := Value.slice ao8 (m + 1) c8) (w1 := w8) (by simp only [execOp, resolve, invoke, builtin, List.map_toArray, List.map_cons, List.map_nil, (F8.eval 59 (by omega)).trans (show _ = Value.slice ro m rc from by simp [upd, ee0, ee1]), (F8.eval 62 (by omega)).trans (show _ = Value.slice (some ⟨w6.heap.size, 0, none⟩) 1 1 from by simp [upd, ee0, ee1])]; simp only [Sem.run_bind, Sem.run_pure, Result.andThen_ok, hr8]; try rfl) fun F9 => ?_
          refine lyp F9 rfl HC9 rfl (by omega) (wanted_none rfl) (v := Value.pointer (some ⟨tb, 0, none⟩)) (fun wr hwr => by simp only [execOp, (F9.eval 55 (by omega)).trans (show _ = Value.pointer (some ⟨tb, 0, none⟩) from by simp [upd, ee0, ee1])]; simp [go_sem]) fun F10 => ?_
          refine lyp F10 rfl HC9 rfl (by omega) (wanted_none rfl) (v := Value.pointer (some ⟨tb, 1, none⟩)) (fun wr hwr => by simp only [execOp, (F10.eval 64 (by omega)).trans (show _ = Value.pointer (some ⟨tb, 0, none⟩) from by simp [upd, ee0, ee1])]; simp [go_sem]) fun F11 => ?_
          refine lst rfl HC9 rfl (wanted_none rfl) (w1 := w8.setCell ⟨tb, 1, none⟩ (Value.slice ao8 (m + 1) c8)) (by simp only [execOp, (F11.eval 65 (by omega)).trans (show _ = Value.pointer (some ⟨tb, 1, none⟩) from by simp [upd, ee0, ee1]), (F11.eval 63 (by omega)).trans (show _ = Value.slice ao8 (m + 1) c8 from by simp [upd, ee0, ee1])]; simp [go_sem, hB8.frozen 1, show w8.cell? ⟨tb, 1, none⟩ = some (Value.slice ro m rc) from HC9.1]) ?_
          have HT8 : Hid (Held (taleE L tb p (Value.slice ao8 (m + 1) c8) lo (hi ++ [(Value.slice vo6 bs.length vc6, bs)]) ++ (y4.es L jb ++ (dmE L p s x4 :: (boxE L H (lifeC rv af tn idle) 51 :: R)))) (w8.setCell ⟨tb, 1, none⟩ (Value.slice ao8 (m + 1) c8)) ∧ Below L w5 (w8.setCell ⟨tb, 1, none⟩ (Value.slice ao8 (m + 1) c8))) := ⟨tale_shut (by rw [← HMM.out]; exact (hH8.perm (List.Perm.swap ..)).boxSet 1 (Value.slice ao8 (m + 1) c8)), hb8.trans ((setCell_chg _ _ _ _).below (Nat.le_trans HLX.out hb8.size) (fun k e => by rw [e]; exact (hH8.all (boxE L tb #[.pointer (some ⟨p, 0, none⟩), Value.slice ro m rc] 48) (List.mem_cons_of_mem _ (List.mem_cons_self ..))).2))⟩
          refine ⟨fun h => by omega, ?_⟩
          refine hK _ _ ?_
          clear F0 F1 F2 F3 F4 F5 F6 F7 F8 F9 F10 F11 ee0 ee1 HCC HCY HC9 HC6 hb8 hb6 hL6 hbY hB8 hH8 hc8 hat8 hr8 hr6 ho6 HHX HH6
          simp only [Act.put, List.setIfInBounds_toArray, List.set_cons_succ, List.set_cons_zero]
          have hI9 : LI L jb p s n0 W0 af (taleE L tb p (Value.slice ao8 (m + 1) c8) lo (hi ++ [(Value.slice vo6 bs.length vc6, bs)]) ++ (boxE L H (lifeC rv af tn idle) 51 :: R)) w y4 x4 (mustL lo (hi ++ [(Value.slice vo6 bs.length vc6, bs)])) (w8.setCell ⟨tb, 1, none⟩ (Value.slice ao8 (m + 1) c8)) := by
            rw [mustL_more]
            exact HI5.out.rest (HT8.out.1.perm (perm_tale ..).symm) (HI5.out.b.trans HT8.out.2)
          generalize w8.setCell ⟨tb, 1, none⟩ (Value.slice ao8 (m + 1) c8) = w9 at hI9 ⊢
          clear HT8 HHE HCX HCX9 HI5
          obtain ⟨hi9, hhi9⟩ : ∃ hi9, hi9 = hi ++ [(Value.slice vo6 bs.length vc6, bs)] := ⟨_, rfl⟩
          rw [← hhi9] at hI9
          clear hhi9
          generalize Value.slice ao8 (m + 1) c8 = mv9 at hI9
          obtain ⟨mo1, mc1, hmv1, d1, d0⟩ := mustCell hI9.tale
          have hmm1 : ((((lo ++ hi9).length : Nat) : Int) != (((lo ++ hi9).length : Nat) : Int)) = false := by simp
          have HI9 : Hid (LI L jb p s n0 W0 af (taleE L tb p mv9 lo hi9 ++ (boxE L H (lifeC rv af tn idle) 51 :: R)) w y4 x4 (mustL lo hi9) w9) := hI9
          have HLE : Hid (∀ q, Calls Try.prog 31 #[.pointer (some ⟨jb, 0, none⟩)] (w9.drewN q) fun e w' => e = .returned (.int .i64 (((lo ++ hi9).length : Nat) : Int)) ∧ w' = w9.drewN q) := fun q => by
            have := (hI9.drewN q).lenC
            rw [mustL_len] at this
            exact this
          have HDE : Hid (∀ q, Calls Try.prog 43 #[.pointer (some ⟨jb, 0, none⟩)] (w9.drewN q) fun e w' => e = .returned (.bool false) ∧ w' = w9.drewN q) := fun q => (hI9.drewN q).dead
          clear hI9 d0
          go_wp2_with fail
          go_quiet (first | (go_at_call 43; refine Calls.quiet_of_same (HDE.out _)) | (go_at_call 31; refine Calls.quiet_of_same (HLE.out _)))
          have HNX : Hid (∃ y x mv hi, LI L jb p s n0 W0 af (taleE L tb p mv lo hi ++ (boxE L H (lifeC rv af tn idle) 51 :: R)) w y x (mustL lo hi) (w9.drewN nq)) := ⟨_, _, _, _, HI9.out.drewN nq⟩
          generalize w9.drewN nq = wz at HNX ⊢
          clear d1 HLE HDE HI9
          go_wp2_with fail
          go_roundw
          case rel => exact ⟨i + 1, by omega, by go_num, HNX.out⟩
          case measure => simp [intOf]; omega
        · have HH4 : Hid (Held (boxE L jb deadA 80 :: dmE L p s x4 :: (taleE L tb p mv lo hi ++ (boxE L H (lifeC rv af tn idle) 51 :: R))) w4 ∧ Below L w w4) := ⟨hH4, hb4⟩
          have HX4 : Hid (x4.n = n0 ∧ x4.writes ≤ W0 + 100 ∧ n ≤ 8192 ∧ (Inv x4.b n0 (mustL lo hi) ∨ Inv x4.b n0 (mustL lo hi ++ [bs]))) := ⟨hn4, hwr4, hn8, hinv4⟩
          have d0 : w4.cell? ⟨tb, 0, none⟩ = some (.pointer (some ⟨p, 0, none⟩)) := (tale_box hH4.drop.drop).cell 0
          have hBH : Blk w4 H (lifeC rv af tn idle) 51 := (hH4.all (boxE L H (lifeC rv af tn idle) 51) (by simp)).1
          have cH1 : w4.cell? ⟨H, 1, none⟩ = some (.int .i64 af) := hBH.cell 1
          have hdm4 : DM L p s x4 w4 := hH4.all (dmE L p s x4) (by simp)
          have HON : Hid _ := isOn_any w4 hdm4
          rw [hoff4] at HON
          have hBj : Blk w4 jb deadA 80 := hH4.boxB
          have HDY : Hid _ := dead_yes w4 hBj
          have HLD : Hid _ := len_dead w4 hBj
          have HAD : Hid _ := append_dead w4 hBj
          have haf1 : ¬ af < 0 := by omega
          clear hH4 hb4 hn4 hwr4 hinv4 hBH hdm4 hBj hoff4
          go_wp2_with fail
          refine Calls.mono (num_any _ _) ?_
          rintro e wn ⟨rfl, hwn⟩
          replace hwn := hwn.symm
          subst hwn
          go_wp2_with fail
          refine Calls.mono HON.out ?_
          rintro e wn ⟨rfl, hwn⟩
          replace hwn := hwn.symm
          subst hwn
          go_wp2_with fail
          refine Calls.mono HDY.out ?_
          rintro e wn ⟨rfl, hwn⟩
          replace hwn := hwn.symm
          subst hwn
          go_wp2_with fail
          refine Calls.mono HLD.out ?_
          rintro e wn ⟨rfl, hwn⟩
          replace hwn := hwn.symm
          subst hwn
          go_wp2_with fail
          refine Calls.mono HAD.out ?_
          rintro e w5 ⟨rfl, hd5, hc5⟩
          have HF : Hid (LfO L tb p s n0 W0 lo R w ds (.slice uo n uc) true mv hi x4 w5) := by
            have h6 := HH4.out.1.swap (e' := boxE L jb deadA 80) hc5 ⟨hd5, (HH4.out.1.all _ (List.mem_cons_self ..)).2⟩ (fun k hk => Or.inl hk)
            have h7 : Held (dmE L p s x4 :: (taleE L tb p mv lo hi ++ R)) w5 := Held.subl h6.drop (List.Sublist.cons_cons _ (List.Sublist.append (List.Sublist.refl _) (List.Sublist.cons _ (List.Sublist.refl _))))
            exact ⟨h7, HH4.out.2.trans (hc5.below (HH4.out.1.lowL (k := jb) rfl) (fun k e => by rw [e]; exact (HH4.out.1.all _ (List.mem_cons_self ..)).2)), HX4.out.1, HX4.out.2.1, Or.inr ⟨rfl, _, HDM.out, rfl, by show bs.length ≤ 8192; rw [HBL.out]; exact HX4.out.2.2.1, HX4.out.2.2.2⟩⟩
          clear hd5 hc5 HAD HLD HDY HON d0 cH1
          go_wp2_with fail
          refine Calls.mono (num_any _ _) ?_
          rintro e wn ⟨rfl, hwn⟩
          replace hwn := hwn.symm
          subst hwn
          go_wp2_with fail
          go_ret3
          exact ⟨_, _, _, _, _, rfl, HF.out⟩
      · have hiN : i = N := by omega
        have hltn : ¬ (i : Int) < (N : Int) := by omega
        have HI9 : Hid (LI L jb p s n0 W0 af (taleE L tb p mv lo hi ++ (boxE L H (lifeC rv af tn idle) 51 :: R)) w y x (mustL lo hi) wr) := hI
        have d0 : wr.cell? ⟨tb, 0, none⟩ = some (.pointer (some ⟨p, 0, none⟩)) := (tale_box hI.tale).cell 0
        have HA2 : Hid _ := arm_on (-1) 0 wr (hI.h.all (dmE L p s x) (by simp)) hI.off (by decide)
        clear hI
        go_wp2_with fail
        refine Calls.mono HA2.out ?_
        rintro e w2 ⟨rfl, k1, k2⟩
        have HF : Hid (∃ x', LfO L tb p s n0 W0 lo R w ds (.slice none 0 0) false mv hi x' w2) := by
          have hh := HI9.out
          have haf := arm_facts x (-1) 0 (by decide)
          have h2 := held_disk (es := y.es L jb) hh.h k1 (k2.mono (fun _ _ e => Or.inl e))
          have h3 : Held (dmE L p s (x.arm (-1) 0) :: (taleE L tb p mv lo hi ++ R)) w2 := Held.subl (Held.tailR h2) (List.Sublist.cons_cons _ (List.Sublist.append (List.Sublist.refl _) (List.Sublist.cons _ (List.Sublist.refl _))))
          refine ⟨_, h3, hh.b.trans (k2.below (jlow hh.h) (fun k e => by rw [e]; exact ((h1d hh.h).lt (Or.inl rfl)).1)), by rw [haf.1]; exact hh.n, ?_, Or.inl ⟨rfl, rfl, by rw [haf.2.1]; exact hh.inv⟩⟩
          rw [haf.2.2.2.1]
          have := hh.writes
          have := hh.le
          have := hh.n60
          omega
        clear k1 k2 HA2 d0
        go_wp2_with fail
        go_ret3
        obtain ⟨x', hx'⟩ := HF.out
        exact ⟨_, _, _, _, _, rfl, hx'⟩
end
end Go.Proofs.Ytjpdcahodmomgaa
