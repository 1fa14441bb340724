import Derived.Test.YtmnihombiabkgaaRfA
import Derived.BigQuiet
namespace Go.Proofs.Ytmnihombiabkgaa
open Go.RowKit Go.PlainAid Go.MapKept
set_option linter.unusedVariables false
set_option linter.unusedSimpArgs false
def set4 (w : World) (g k : Nat) (x : Tm) : World := (((w.setCell ⟨g, k * 4, none⟩ (.int .i64 x.due)).setCell ⟨g, k * 4 + 1, none⟩ (.int .i64 x.num)).setCell ⟨g, k * 4 + 2, none⟩ (.int .i64 x.kind)).setCell ⟨g, k * 4 + 3, none⟩ (.int .i64 x.id)
/-- A timer is being put in its place. -/
structure IN (L g n cap bx : Nat) (S : List Tm) (t : Tm) (w : World) (k : Nat) (wr : World) : Prop where
  row : ∃ y, wr.ownsRow L 50 4 (.slice (some ⟨g, 0, none⟩) (n + 1) cap) (n + 1) (flatT (S.take k ++ y :: S.drop k))
  hl : S.length = n
  hk : k ≤ n
  bk : Blk wr bx #[.int .i64 t.due, .int .i64 t.num, .int .i64 t.kind, .int .i64 t.id] 50
  ne : bx ≠ g
  gt : ∀ x ∈ S.drop k, t.due < x.due
  bl : Below L w wr
  lo : L ≤ wr.heap.size
section
variable {L g n cap bx : Nat} {S : List Tm} {t : Tm} {w : World} {k : Nat} {wr : World}
theorem IN.len (h : IN L g n cap bx S t w k wr) (y : Tm) : (S.take k ++ y :: S.drop k).length = n + 1 := by
  have h1 := h.hl; have h2 := h.hk
  simp; omega
theorem IN.at (h : IN L g n cap bx S t w k wr) {j : Nat} (hj : j < k) {x : Tm} (hx : S[j]? = some x) : wr.cell? ⟨g, j * 4, none⟩ = some (.int .i64 x.due) ∧ wr.cell? ⟨g, j * 4 + 1, none⟩ = some (.int .i64 x.num) ∧ wr.cell? ⟨g, j * 4 + 2, none⟩ = some (.int .i64 x.kind) ∧ wr.cell? ⟨g, j * 4 + 3, none⟩ = some (.int .i64 x.id) := by
  obtain ⟨y, hr⟩ := h.row
  exact cellT hr (by
    have h1 := h.hl; have h2 := h.hk
    rw [List.getElem?_append_left (by simp; omega), List.getElem?_take_of_lt hj, hx])
theorem IN.here (h : IN L g n cap bx S t w k wr) : (∃ y : Tm, wr.cell? ⟨g, k * 4, none⟩ = some (.int .i64 y.due) ∧ wr.cell? ⟨g, k * 4 + 1, none⟩ = some (.int .i64 y.num) ∧ wr.cell? ⟨g, k * 4 + 2, none⟩ = some (.int .i64 y.kind) ∧ wr.cell? ⟨g, k * 4 + 3, none⟩ = some (.int .i64 y.id)) ∧ ∀ q, wr.frozen? ⟨g, q, none⟩ = false := by
  obtain ⟨y, hr⟩ := h.row
  have h1 := h.hl; have h2 := h.hk
  refine ⟨⟨y, cellT hr ?_⟩, (own_set4 hr (h.len y) (k := k) (by omega) y).2.1⟩
  rw [List.getElem?_append_right (by rw [List.length_take]; omega), List.length_take, Nat.min_eq_left (by omega), Nat.sub_self]
  rfl
theorem IN.put (h : IN L g n cap bx S t w k wr) (x : Tm) : (set4 wr g k x).ownsRow L 50 4 (.slice (some ⟨g, 0, none⟩) (n + 1) cap) (n + 1) (flatT (S.take k ++ x :: S.drop k)) ∧ Chg (fun b => b = g) wr (set4 wr g k x) := by
  obtain ⟨y, hr⟩ := h.row
  have h1 := h.hl; have h2 := h.hk
  obtain ⟨a, _, b⟩ := own_set4 hr (h.len y) (k := k) (by omega) x
  have e : (S.take k ++ y :: S.drop k).set k x = S.take k ++ x :: S.drop k := by
    rw [List.set_append_right _ _ (by rw [List.length_take]; omega), List.length_take, Nat.min_eq_left (by omega), Nat.sub_self]
    rfl
  rw [e] at a
  exact ⟨a, b⟩
theorem IN.drewN (h : IN L g n cap bx S t w k wr) (q : Nat) : IN L g n cap bx S t w k (wr.drewN q) := ⟨h.row, h.hl, h.hk, h.bk, h.ne, h.gt, ⟨h.bl.os, h.bl.tape, h.bl.output, h.bl.size, h.bl.block⟩, h.lo⟩
theorem IN.step (h : IN L g n cap bx S t w (k + 1) wr) {x : Tm} (hx : S[k]? = some x) (hd : t.due < x.due) : IN L g n cap bx S t w k (set4 wr g (k + 1) x) := by
  obtain ⟨a, b⟩ := h.put x
  have h1 := h.hl; have h2 := h.hk
  have hg : L ≤ g := by
    obtain ⟨y, hr⟩ := h.row
    exact (ownsRow_lt (g := g) hr rfl).1
  have hkl : k < S.length := by omega
  have ed : S.drop k = x :: S.drop (k + 1) := by
    rw [List.drop_eq_getElem_cons hkl]
    congr 1
    rw [List.getElem?_eq_getElem hkl] at hx
    exact Option.some.inj hx
  have et : S.take (k + 1) = S.take k ++ [x] := by rw [List.take_add_one, hx]; rfl
  refine ⟨⟨x, ?_⟩, h.hl, by omega, b.blk h.bk h.ne, h.ne, fun z hz => ?_, h.bl.trans (b.below h.lo (fun j hj => by rw [hj]; exact hg)), Nat.le_trans h.lo b.size⟩
  · rw [ed]
    rw [et, List.append_assoc] at a
    exact a
  · rw [ed] at hz
    rcases List.mem_cons.1 hz with rfl | hz
    · exact hd
    · exact h.gt z hz
end
theorem ins_srtd {S A : List Tm} {t : Tm} {k : Nat} (hk : k ≤ S.length) (h : Srtd S A) (hn : ∀ x ∈ A, x.num < t.num) (hg : ∀ x ∈ S.drop k, t.due < x.due) (hle : ∀ x, 0 < k → S[k - 1]? = some x → x.due ≤ t.due) : Srtd (S.take k ++ t :: S.drop k) (A ++ [t]) := by
  refine ⟨?_, ?_⟩
  · have e : S.take k ++ S.drop k = S := List.take_append_drop k S
    refine List.perm_middle.trans ?_
    rw [e]
    exact (List.Perm.cons t h.1).trans (List.perm_append_singleton t A).symm
  · have hp := h.2
    rw [← List.take_append_drop k S] at hp
    obtain ⟨p1, p2, p3⟩ := List.pairwise_append.1 hp
    refine List.pairwise_append.2 ⟨p1, List.pairwise_cons.2 ⟨fun x hx => ?_, p2⟩, fun a ha b hb => ?_⟩
    · have := hg x hx
      rw [ltC_no]
      omega
    · rcases List.mem_cons.1 hb with rfl | hb
      · have hal : a.due ≤ b.due := by
          obtain ⟨i, hi⟩ := List.getElem?_of_mem ha
          have hik : i < k := by
            have := (List.getElem?_eq_some_iff.1 hi).1
            simp at this
            omega
          rw [List.getElem?_take_of_lt hik] at hi
          obtain ⟨x, hx⟩ : ∃ x, S[k - 1]? = some x := ⟨S[k - 1]'(by omega), List.getElem?_eq_getElem _⟩
          have hxl := hle x (by omega) hx
          by_cases e : i = k - 1
          · subst e
            rw [hi] at hx
            cases hx
            exact hxl
          · have := List.pairwise_iff_getElem.1 h.2 i (k - 1) (List.getElem?_eq_some_iff.1 hi).1 (by omega) (by omega)
            rw [(List.getElem?_eq_some_iff.1 hi).2, (List.getElem?_eq_some_iff.1 hx).2, ltC_no] at this
            omega
        have ham : a ∈ A := h.1.mem_iff.1 (List.mem_of_mem_take ha)
        have := hn a ham
        rw [ltC_no]
        omega
      · exact p3 a ha b hb
set_option maxRecDepth 100000 in
set_option maxHeartbeats 6400000 in
theorem rlist_any {base rb : Nat} {s : WV} {v : Value} (w : World) (h : RW base rb s v w) (hl : s.A.length ≤ 1000000) (hu : Up s.A) :
    Calls Try.prog 30 #[.pointer (some ⟨rb, 0, none⟩)] w fun e w' => ∃ v1 S, e = .returned v1 ∧ Srtd S s.A ∧ w'.ownsRow w.heap.size 50 4 v1 S.length (flatT S) ∧ Below w.heap.size w w' := by
  have c2 : w.cell? ⟨rb, 2, none⟩ = some v := h.b.cell 2
  obtain ⟨ao, cap, hv, hcp⟩ := own_slice h.r
  obtain ⟨N, hN⟩ : ∃ N, N = s.A.length := ⟨_, rfl⟩
  rw [← hN] at hv hl hcp
  subst hv
  have HN : Hid (N = s.A.length) := hN
  have HR : Hid _ := h
  have HU : Hid (Up s.A) := hu
  clear h hN hu
  go_enter Try.func30, Try.ntmps30
  go_wp2_with fail
  go_loopw [3, 4, 5, 6] (fun s3 s4 _ _ wr => ∃ vd, vd = s3 ∧ ∃ k : Nat, k ≤ N ∧ s4 = .int .i64 k ∧ ∃ S, Srtd S (s.A.take k) ∧ wr.ownsRow w.heap.size 50 4 vd S.length (flatT S) ∧ Below w.heap.size w wr) (fun _ s4 _ _ _ => N - (intOf s4).toNat)
  case atStart => exact ⟨_, rfl, 0, Nat.zero_le _, rfl, [], ⟨List.Perm.refl _, List.Pairwise.nil⟩, World.ownsRow_nil _ _ _ _, Below.refl _ _⟩
  case round =>
    obtain ⟨vd, rfl, k, hk, rfl, S, hS, hrow, hbe⟩ := hrel
    have hR := HR.out.more hbe
    have c2' : wr.cell? ⟨rb, 2, none⟩ = some (.slice ao N cap) := hR.b.cell 2
    by_cases hlt : k < N
    · obtain ⟨g0, c, hv, _, _, _⟩ := own_some hR.r (by rw [← HN.out]; omega)
      simp only [Value.slice.injEq] at hv
      obtain ⟨rfl, hzz, rfl⟩ := hv
      clear hzz
      obtain ⟨x, hx⟩ : ∃ x, s.A[k]? = some x := ⟨s.A[k]'(by rw [← HN.out]; exact hlt), List.getElem?_eq_getElem _⟩
      have hrr := hR.r
      rw [← HN.out] at hrr
      obtain ⟨x0, x1, x2, x3⟩ := cellT hrr hx
      have hSl : S.length = k := by rw [hS.1.length_eq, List.length_take]; have := HN.out; omega
      obtain ⟨X, hX⟩ : ∃ X, X = wr.alloc (.cells #[.int .i64 x.due, .int .i64 x.num, .int .i64 x.kind, .int .i64 x.id] 50) := ⟨_, rfl⟩
      obtain ⟨bx, hbx⟩ : ∃ bx, bx = wr.heap.size := ⟨_, rfl⟩
      have hbX : Below wr.heap.size wr X := by rw [hX]; exact (Below.refl _ _).alloc (Nat.le_refl _) _
      have hBX : Blk X bx #[.int .i64 x.due, .int .i64 x.num, .int .i64 x.kind, .int .i64 x.id] 50 := by rw [hX, hbx]; exact heap_alloc_new wr _
      have hXs : X.heap.size = wr.heap.size + 1 := by rw [hX]; simp
      have hrX : X.ownsRow w.heap.size 50 4 vd S.length (flatT S) := ownsRow_same hrow (fun g e => hbX.block g (ownsRow_lt hrow e).2)
      have hbeX : Below w.heap.size w X := hbe.trans (hbX.mono hbe.size)
      obtain ⟨v5, w5, hr5, ho5, hg5, _⟩ := app_tm x hrX hbeX.size (by rw [hSl]; omega)
      obtain ⟨ao5, cap5, hv5, _⟩ := own_slice ho5
      have hlen5 : (S ++ [x]).length = k + 1 := by simp [hSl]
      rw [hlen5] at hv5 ho5
      obtain ⟨g, c5, hv5', _, _, _⟩ := own_some ho5 (by omega)
      have hgv : v5 = .slice (some ⟨g, 0, none⟩) (k + 1) c5 := hv5'
      have hbx5 : ∀ j, vd.ownBlock = some j → j ≠ bx := fun j hj e => by
        have := (ownsRow_lt hrow hj).2
        omega
      have hB5 : Blk w5 bx #[.int .i64 x.due, .int .i64 x.num, .int .i64 x.kind, .int .i64 x.id] 50 := hg5.chg.blk hBX (fun e => hbx5 bx e rfl)
      have hgb : bx ≠ g := fun e => by
        rcases hg5.at' g (by rw [hgv]; rfl) with h1 | h1
        · exact hbx5 g h1 e.symm
        · omega
      have hb5 : Below w.heap.size w w5 := hbeX.trans (hg5.below (fun q hq => (ownsRow_lt hrX hq).1) hbeX.size)
      have hI0 : IN w.heap.size g k c5 bx S x w k w5 := ⟨⟨x, by
        rw [List.take_of_length_le (by omega), List.drop_of_length_le (by omega)]
        rw [hgv] at ho5
        exact ho5⟩, hSl, Nat.le_refl _, hB5, hgb, (fun z hz => by rw [List.drop_of_length_le (by omega)] at hz; cases hz), hb5, hb5.size⟩
      have HI0 : Hid (IN w.heap.size g k c5 bx S x w k w5) := hI0
      have HS : Hid (Srtd S (s.A.take k)) := hS
      have HX : Hid (s.A[k]? = some x) := hx
      have HHR : Hid (∀ ty, (Builtin.append_ #[33, 33] ty #[vd, .slice (some ⟨X.heap.size, 0, none⟩) 1 1]).run Try.prog (X.alloc (.cells #[.int .i64 x.due, .int .i64 x.num, .int .i64 x.kind, .int .i64 x.id] 50)) = .ok v5 w5) := hr5
      have b0 : X.cell? ⟨bx, 0, none⟩ = some (.int .i64 x.due) := hBX.cell 0
      have b1 : X.cell? ⟨bx, 1, none⟩ = some (.int .i64 x.num) := hBX.cell 1
      have b2 : X.cell? ⟨bx, 2, none⟩ = some (.int .i64 x.kind) := hBX.cell 2
      have b3 : X.cell? ⟨bx, 3, none⟩ = some (.int .i64 x.id) := hBX.cell 3
      have HSL : Hid (S.length = k) := hSl
      obtain ⟨aod, capd, hvd, _⟩ := own_slice hrow
      rw [hSl] at hvd
      have HEX : Hid (X = wr.alloc (.cells #[.int .i64 x.due, .int .i64 x.num, .int .i64 x.kind, .int .i64 x.id] 50)) := hX
      have HEB : Hid (bx = wr.heap.size) := hbx
      rw [hgv] at HHR
      subst hvd
      clear hrow hbe hR hx hrr hr5 ho5 hg5 hS hSl hX hbx hbX hBX hXs hrX hbeX hv5 hlen5 hv5' hgv hbx5 hB5 hgb hb5 hI0
      go_upto_region 6 with fail
      rw [← HEX.out, ← HEB.out]
      clear HEX HEB x0 x1 x2 x3
      go_wp2_with (at_builtin; refine wpList_runs rfl _ _ 33 rfl rfl rfl HHR.out ?_)
      clear HHR b0 b1 b2 b3
      go_loopw [6] (fun s6 wq => ∃ j : Nat, s6 = .int .i64 (j : Int) ∧ IN w.heap.size g k c5 bx S x w j wq) (fun s6 _ => (intOf s6).toNat)
      case atStart => exact ⟨k, rfl, HI0.out⟩
      case round =>
        clear HI0
        obtain ⟨j, rfl, hI⟩ := hrel
        have HI : Hid _ := hI
        have hjk := hI.hk
        have b0 : wr.cell? ⟨bx, 0, none⟩ = some (.int .i64 x.due) := hI.bk.cell 0
        have b1 : wr.cell? ⟨bx, 1, none⟩ = some (.int .i64 x.num) := hI.bk.cell 1
        have b2 : wr.cell? ⟨bx, 2, none⟩ = some (.int .i64 x.kind) := hI.bk.cell 2
        have b3 : wr.cell? ⟨bx, 3, none⟩ = some (.int .i64 x.id) := hI.bk.cell 3
        obtain ⟨⟨y, y0, y1, y2, y3⟩, fz⟩ := hI.here
        have f0 := fz (j * 4)
        have f1 := fz (j * 4 + 1)
        have f2 := fz (j * 4 + 2)
        have f3 := fz (j * 4 + 3)
        clear hI fz
        cases j with
        | zero =>
          have h00 : ¬ (0 : Int) < ((0 : Nat) : Int) := by omega
          have HF : Hid (∀ nq, Srtd (S.take 0 ++ x :: S.drop 0) (s.A.take (k + 1)) ∧ (set4 (wr.drewN nq) g 0 x).ownsRow w.heap.size 50 4 (.slice (some ⟨g, 0, none⟩) (k + 1) c5) (S.take 0 ++ x :: S.drop 0).length (flatT (S.take 0 ++ x :: S.drop 0)) ∧ Below w.heap.size w (set4 (wr.drewN nq) g 0 x)) := by
            intro nq
            obtain ⟨p1, p2⟩ := (HI.out.drewN nq).put x
            refine ⟨?_, ?_, (HI.out.drewN nq).bl.trans (p2.below (HI.out.drewN nq).lo (fun b hb => by rw [hb]; exact (ownsRow_lt (g := g) p1 rfl).1))⟩
            · rw [show s.A.take (k + 1) = s.A.take k ++ [x] from by rw [List.take_add_one, HX.out]; rfl]
              refine ins_srtd (by rw [HSL.out]; exact hjk) HS.out (fun z hz => ?_) HI.out.gt (fun z h0 hz => ?_)
              · obtain ⟨i, hi⟩ := List.getElem?_of_mem hz
                have hik : i < k := by
                  have := (List.getElem?_eq_some_iff.1 hi).1
                  simp at this
                  omega
                rw [List.getElem?_take_of_lt hik] at hi
                have hp := List.pairwise_iff_getElem.1 HU.out i k (List.getElem?_eq_some_iff.1 hi).1 (List.getElem?_eq_some_iff.1 HX.out).1 hik
                rw [(List.getElem?_eq_some_iff.1 hi).2, (List.getElem?_eq_some_iff.1 HX.out).2] at hp
                exact hp
              · omega
            · rw [HI.out.len]
              exact p1
          replace HF : Hid (∀ nq, Srtd (S.take 0 ++ x :: S.drop 0) (s.A.take (k + 1)) ∧ (((((wr.drewN nq).setCell ⟨g, 0 * 4, none⟩ (.int .i64 x.due)).setCell ⟨g, 0 * 4 + 1, none⟩ (.int .i64 x.num)).setCell ⟨g, 0 * 4 + 2, none⟩ (.int .i64 x.kind)).setCell ⟨g, 0 * 4 + 3, none⟩ (.int .i64 x.id)).ownsRow w.heap.size 50 4 (.slice (some ⟨g, 0, none⟩) (k + 1) c5) (S.take 0 ++ x :: S.drop 0).length (flatT (S.take 0 ++ x :: S.drop 0)) ∧ Below w.heap.size w (((((wr.drewN nq).setCell ⟨g, 0 * 4, none⟩ (.int .i64 x.due)).setCell ⟨g, 0 * 4 + 1, none⟩ (.int .i64 x.num)).setCell ⟨g, 0 * 4 + 2, none⟩ (.int .i64 x.kind)).setCell ⟨g, 0 * 4 + 3, none⟩ (.int .i64 x.id))) := HF
          clear HI HS
          go_wp2_with fail
          go_quiet (fail)
          go_wp2_with fail
          go_roundw
          case rel => exact ⟨_, rfl, k + 1, by omega, by go_num, _, HF.out _⟩
          case measure => simp [intOf]; omega
        | succ j =>
          obtain ⟨x', hx'⟩ : ∃ x', S[j]? = some x' := ⟨S[j]'(by rw [HSL.out]; omega), List.getElem?_eq_getElem _⟩
          obtain ⟨z0, z1, z2, z3⟩ := HI.out.at (Nat.lt_succ_self j) hx'
          have HXJ : Hid (S[j]? = some x') := hx'
          have hcj : ((j + 1 : Nat) : Int) = (j : Int) + 1 := by omega
          rw [hcj]
          by_cases hd : x.due < x'.due
          · have HN2 : Hid (∀ nq, IN w.heap.size g k c5 bx S x w j (((((wr.drewN nq).setCell ⟨g, (j + 1) * 4, none⟩ (.int .i64 x'.due)).setCell ⟨g, (j + 1) * 4 + 1, none⟩ (.int .i64 x'.num)).setCell ⟨g, (j + 1) * 4 + 2, none⟩ (.int .i64 x'.kind)).setCell ⟨g, (j + 1) * 4 + 3, none⟩ (.int .i64 x'.id))) := fun nq => (HI.out.drewN nq).step hx' hd
            have hdb : decide (x.due < x'.due) = true := decide_eq_true hd
            clear HI hx' hcj
            go_wp2_with fail
            go_quiet (fail)
            go_wp2_with fail
            go_roundw
            case rel => exact ⟨j, by go_num, HN2.out _⟩
            case measure => simp [intOf]
          · have hdb : decide (x.due < x'.due) = false := decide_eq_false hd
            clear hx' hcj z1 z2 z3
            have HF : Hid (∀ nq, Srtd (S.take (j + 1) ++ x :: S.drop (j + 1)) (s.A.take (k + 1)) ∧ (set4 (wr.drewN nq) g (j + 1) x).ownsRow w.heap.size 50 4 (.slice (some ⟨g, 0, none⟩) (k + 1) c5) (S.take (j + 1) ++ x :: S.drop (j + 1)).length (flatT (S.take (j + 1) ++ x :: S.drop (j + 1))) ∧ Below w.heap.size w (set4 (wr.drewN nq) g (j + 1) x)) := by
              intro nq
              obtain ⟨p1, p2⟩ := (HI.out.drewN nq).put x
              refine ⟨?_, ?_, (HI.out.drewN nq).bl.trans (p2.below (HI.out.drewN nq).lo (fun b hb => by rw [hb]; exact (ownsRow_lt (g := g) p1 rfl).1))⟩
              · rw [show s.A.take (k + 1) = s.A.take k ++ [x] from by rw [List.take_add_one, HX.out]; rfl]
                refine ins_srtd (by rw [HSL.out]; exact hjk) HS.out (fun z hz => ?_) HI.out.gt (fun z h0 hz => ?_)
                · obtain ⟨i, hi⟩ := List.getElem?_of_mem hz
                  have hik : i < k := by
                    have := (List.getElem?_eq_some_iff.1 hi).1
                    simp at this
                    omega
                  rw [List.getElem?_take_of_lt hik] at hi
                  have hp := List.pairwise_iff_getElem.1 HU.out i k (List.getElem?_eq_some_iff.1 hi).1 (List.getElem?_eq_some_iff.1 HX.out).1 hik
                  rw [(List.getElem?_eq_some_iff.1 hi).2, (List.getElem?_eq_some_iff.1 HX.out).2] at hp
                  exact hp
                · rw [Nat.add_sub_cancel, HXJ.out] at hz
                  cases hz
                  omega
              · rw [HI.out.len]
                exact p1
            replace HF : Hid (∀ nq, Srtd (S.take (j + 1) ++ x :: S.drop (j + 1)) (s.A.take (k + 1)) ∧ (((((wr.drewN nq).setCell ⟨g, (j + 1) * 4, none⟩ (.int .i64 x.due)).setCell ⟨g, (j + 1) * 4 + 1, none⟩ (.int .i64 x.num)).setCell ⟨g, (j + 1) * 4 + 2, none⟩ (.int .i64 x.kind)).setCell ⟨g, (j + 1) * 4 + 3, none⟩ (.int .i64 x.id)).ownsRow w.heap.size 50 4 (.slice (some ⟨g, 0, none⟩) (k + 1) c5) (S.take (j + 1) ++ x :: S.drop (j + 1)).length (flatT (S.take (j + 1) ++ x :: S.drop (j + 1))) ∧ Below w.heap.size w (((((wr.drewN nq).setCell ⟨g, (j + 1) * 4, none⟩ (.int .i64 x.due)).setCell ⟨g, (j + 1) * 4 + 1, none⟩ (.int .i64 x.num)).setCell ⟨g, (j + 1) * 4 + 2, none⟩ (.int .i64 x.kind)).setCell ⟨g, (j + 1) * 4 + 3, none⟩ (.int .i64 x.id))) := HF
            clear HI HS
            go_wp2_with fail
            go_quiet (fail)
            go_wp2_with fail
            go_roundw
            case rel => exact ⟨_, rfl, k + 1, by omega, by go_num, _, HF.out _⟩
            case measure => simp [intOf]; omega
    · obtain rfl : k = N := by omega
      have htk : s.A.take k = s.A := List.take_of_length_le (by rw [HN.out]; exact Nat.le_refl _)
      rw [htk] at hS
      have HX : Hid (Srtd S s.A ∧ wr.ownsRow w.heap.size 50 4 vd S.length (flatT S) ∧ Below w.heap.size w wr) := ⟨hS, hrow, hbe⟩
      clear hrow hbe hR hS htk
      go_wp2_with fail
      go_ret
      exact ⟨_, S, rfl, HX.out⟩
end Go.Proofs.Ytmnihombiabkgaa
