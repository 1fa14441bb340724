import Derived.Test.YtadfmnlkfcigoaaJoinB
namespace Go.Proofs.Ytadfmnlkfcigoaa
open Go.RowKit Go.PlainAid Go.MapKept
set_option linter.unusedVariables false
set_option linter.unusedSimpArgs false
def rpA (r : Rp) : Array Value := #[.int .i64 r.s, .int .i64 r.i, .int .i64 r.e, .int .i64 r.v]
def zrp : Rp := ⟨0, 0, 0, 0⟩
theorem slot_cells {C : Array Value} {la : Int} {sl : Nat → Rp} {m f n hb : Nat} {w : World} (hB : Blk w hb C 67) (hC : HC C la sl m f n) (k : Nat) (hk : k < 16) {x : Rp} (hx : sl k = x) :
    w.cell? ⟨hb, 1 + 4 * k, none⟩ = some (.int .i64 x.s) ∧ w.cell? ⟨hb, 1 + 4 * k + 1, none⟩ = some (.int .i64 x.i) ∧ w.cell? ⟨hb, 1 + 4 * k + 2, none⟩ = some (.int .i64 x.e) ∧ w.cell? ⟨hb, 1 + 4 * k + 3, none⟩ = some (.int .i64 x.v) := by
  subst hx
  exact ⟨(hB.cell _).trans (hC.cs k 0 _ hk rfl), (hB.cell _).trans (hC.cs k 1 _ hk rfl), (hB.cell _).trans (hC.cs k 2 _ hk rfl), (hB.cell _).trans (hC.cs k 3 _ hk rfl)⟩
theorem results_cell2 {fn : Func} {p u : Tmp} (h : fn.results = #[.cell p 36, .tmp u]) (tmps : Array Value) (w : World) (g : Nat) (cs : Array Value) (v : Value)
    (hp : tmps.getD p undef = .pointer (some ⟨g, 0, none⟩)) (hv : tmps.getD u undef = v) (hg : Blk w g cs 36) (hi : (Try.prog.info? 36).map (·.size) = some cs.size) :
    (results fn tmps).run Try.prog w = .ok (.tuple #[.agg cs, v]) w := by
  have hld := run_loadVar_row (P := Try.prog) w g 36 36 cs (0, 0) _ hg Try.underlying36 rfl hi
  rw [results_cell_tmp h, hp, hv]
  simp [asAddr, hld]
theorem rfind_at {id : Int} : ∀ {R : List Rp} {k : Nat} {x : Rp}, R[k]? = some x → x.i = id → (∀ j y, j < k → R[j]? = some y → y.i ≠ id) → rfind id R = some x
  | [], k, x, h, _, _ => by simp at h
  | y :: t, 0, x, h, hi, _ => by
    simp at h
    subst h
    simp [rfind, hi]
  | y :: t, k + 1, x, h, hi, hn => by
    have h0 := hn 0 y (by omega) rfl
    have := rfind_at (R := t) (k := k) (by simpa using h) hi (fun j z hj hz => hn (j + 1) z (by omega) (by simpa using hz))
    unfold rfind at this ⊢
    rw [List.find?_cons_of_neg (by simpa using h0)]
    exact this
theorem rfind_no {id : Int} {R : List Rp} (h : ∀ j y, j < R.length → R[j]? = some y → y.i ≠ id) : rfind id R = none := by
  unfold rfind
  rw [List.find?_eq_none]
  intro x hx
  obtain ⟨j, hj, rfl⟩ := List.getElem_of_mem hx
  have := h j _ hj (List.getElem?_eq_getElem hj)
  simpa using this
theorem blk4 {X : World} {rb : Nat} {z0 z1 z2 z3 : Value} {T : TypeId} (h : Blk X rb #[z0, z1, z2, z3] T) (v0 v1 v2 v3 : Value) :
    Blk ((((X.setCell ⟨rb, 0, none⟩ v0).setCell ⟨rb, 1, none⟩ v1).setCell ⟨rb, 2, none⟩ v2).setCell ⟨rb, 3, none⟩ v3) rb #[v0, v1, v2, v3] T ∧ Chg (fun k => k = rb) X ((((X.setCell ⟨rb, 0, none⟩ v0).setCell ⟨rb, 1, none⟩ v1).setCell ⟨rb, 2, none⟩ v2).setCell ⟨rb, 3, none⟩ v3) ∧ Below rb X ((((X.setCell ⟨rb, 0, none⟩ v0).setCell ⟨rb, 1, none⟩ v1).setCell ⟨rb, 2, none⟩ v2).setCell ⟨rb, 3, none⟩ v3) := by
  have s1 : ∀ (W : World) (j : Nat) (v : Value), Chg (fun b => b = rb) W (W.setCell ⟨rb, j, none⟩ v) := fun W j v => ⟨rfl, rfl, rfl, by simp [World.setCell], fun k hk hn => Below.heap_setCell _ _ _ _ hn⟩
  have hc : Chg (fun k => k = rb) X ((((X.setCell ⟨rb, 0, none⟩ v0).setCell ⟨rb, 1, none⟩ v1).setCell ⟨rb, 2, none⟩ v2).setCell ⟨rb, 3, none⟩ v3) := (((s1 _ _ _).trans (s1 _ _ _) (fun _ _ e => e)).trans (s1 _ _ _) (fun _ _ e => e)).trans (s1 _ _ _) (fun _ _ e => e)
  exact ⟨(((h.set 0 v0).set 1 v1).set 2 v2).set 3 v3, hc, hc.below (Nat.le_of_lt h.lt) (fun k e => by omega)⟩
set_option maxRecDepth 100000 in
set_option maxHeartbeats 3200000 in
theorem find_any {hb m : Nat} {la : Int} {R : List Rp} (id : Int) (w : World) (hH : Hist w hb m la R) :
    Calls Try.prog 23 #[.pointer (some ⟨hb, 1, none⟩), .int .i64 id] w fun e w' => e = .returned (.tuple #[.agg (rpA ((rfind id R).getD zrp)), .bool (rfind id R).isSome]) ∧ Below w.heap.size w w' := by
  obtain ⟨res, hres⟩ : ∃ res, res = rfind id R := ⟨_, rfl⟩
  rw [← hres]
  have HRES : Hid _ := hres
  clear hres
  obtain ⟨C, sl, f, hB, hC, hf, hm, hl, hR⟩ := hH
  obtain ⟨X, hX⟩ : ∃ X, X = w.alloc (.cells #[.int .i64 0, .int .i64 0, .int .i64 0, .int .i64 0] 36) := ⟨_, rfl⟩
  have hbX : Below w.heap.size w X := by rw [hX]; exact (Below.refl _ _).alloc (Nat.le_refl _) _
  obtain ⟨rb, hrb⟩ : ∃ rb, rb = w.heap.size := ⟨_, rfl⟩
  have hZB : Blk X rb #[.int .i64 0, .int .i64 0, .int .i64 0, .int .i64 0] 36 := by rw [hX, hrb]; exact heap_alloc_new w _
  have hBX : Blk X hb C 67 := hB.below hbX hB.lt
  have c67 : X.cell? ⟨hb, 67, none⟩ = some (.int .i64 (R.length : Nat)) := (hBX.cell 67).trans hC.c67
  have HR : Hid _ := hR
  have HB : Hid (Blk X hb C 67) := hBX
  have HC' : Hid _ := hC
  have HZ : Hid (Blk X rb #[.int .i64 0, .int .i64 0, .int .i64 0, .int .i64 0] 36) := hZB
  have HBX : Hid _ := hbX
  have HAT : Hid (∀ (i : Nat) (q : Nat), i ≤ 16 → _) := fun i q hi => at_any i (X.drewN q) (show Blk (X.drewN q) hb C 67 from hBX) hC hf hm hi
  have HRB : Hid _ := hrb
  have hmp : 0 < m := by omega
  clear hR hB hC hBX hZB hbX
  have hz := zero36
  go_enter Try.func23, Try.ntmps23
  have c67w := c67
  rw [hX] at c67w
  go_wp2_with fail
  simp only [← hX, ← hrb]
  clear hX hrb c67w
  go_loopw [12] (fun i wr => ∃ k q : Nat, k ≤ R.length ∧ i = .int .i64 k ∧ wr = X.drewN q ∧ ∀ j y, j < k → R[j]? = some y → y.i ≠ id) (fun i _ => R.length - (intOf i).toNat)
  case atStart => exact ⟨0, 0, Nat.zero_le _, rfl, rfl, fun j y h => by omega⟩
  case round =>
    obtain ⟨k, q, hk, rfl, rfl, hne⟩ := hrel
    have d67 : (X.drewN q).cell? ⟨hb, 67, none⟩ = some (.int .i64 (R.length : Nat)) := c67
    by_cases hlt : k < R.length
    · obtain ⟨x, hx⟩ : ∃ x, R[k]? = some x := ⟨R[k], List.getElem?_eq_getElem hlt⟩
      have hsl := HR.out k x hx
      have hmod : (f + k) % m < 16 := by have := Nat.mod_lt (f + k) hmp; omega
      obtain ⟨p0, p1, p2, p3⟩ := slot_cells HB.out HC'.out _ hmod hsl
      obtain ⟨o, ho⟩ : ∃ o, o = 1 + 4 * ((f + k) % m) := ⟨_, rfl⟩
      have HA : Hid (Calls Try.prog 27 #[.pointer (some ⟨hb, 1, none⟩), .int .i64 (k : Nat)] (X.drewN q) fun e w' => e = .returned (.pointer (some ⟨hb, o, none⟩)) ∧ ∃ q', w' = (X.drewN q).drewN q') := by rw [ho]; exact HAT.out k q (by omega)
      rw [← ho] at p0 p1 p2 p3
      have HNE : Hid _ := hne
      have HXX : Hid _ := hx
      clear hne hx hsl hmod ho
      go_wp2_with fail
      refine Calls.mono HA.out ?_
      rintro e w1 ⟨rfl, q2, rfl⟩
      have r0 : (X.drewN (q + q2)).cell? ⟨hb, o, none⟩ = some (.int .i64 x.s) := p0
      have r1 : (X.drewN (q + q2)).cell? ⟨hb, o + 1, none⟩ = some (.int .i64 x.i) := p1
      have r2 : (X.drewN (q + q2)).cell? ⟨hb, o + 2, none⟩ = some (.int .i64 x.e) := p2
      have r3 : (X.drewN (q + q2)).cell? ⟨hb, o + 3, none⟩ = some (.int .i64 x.v) := p3
      by_cases hid : x.i = id
      · have hid2 : (x.i == id) = true := by simpa using hid
        have z0 : (X.drewN (q + q2)).cell? ⟨rb, 0, none⟩ = some (.int .i64 0) := Blk.cell HZ.out 0
        have z1 : (X.drewN (q + q2)).cell? ⟨rb, 1, none⟩ = some (.int .i64 0) := Blk.cell HZ.out 1
        have z2 : (X.drewN (q + q2)).cell? ⟨rb, 2, none⟩ = some (.int .i64 0) := Blk.cell HZ.out 2
        have z3 : (X.drewN (q + q2)).cell? ⟨rb, 3, none⟩ = some (.int .i64 0) := Blk.cell HZ.out 3
        have y0 : (X.drewN (q + q2)).frozen? ⟨rb, 0, none⟩ = false := Blk.frozen HZ.out 0
        have y1 : (X.drewN (q + q2)).frozen? ⟨rb, 1, none⟩ = false := Blk.frozen HZ.out 1
        have y2 : (X.drewN (q + q2)).frozen? ⟨rb, 2, none⟩ = false := Blk.frozen HZ.out 2
        have y3 : (X.drewN (q + q2)).frozen? ⟨rb, 3, none⟩ = false := Blk.frozen HZ.out 3
        have hfd := rfind_at HXX.out hid HNE.out
        have HFD : Hid _ := hfd
        clear hfd
        clear hid2 HNE HA HAT
        go_wp2_with fail
        obtain ⟨b4, _, l4⟩ := blk4 (show Blk (X.drewN (q + q2)) rb _ 36 from HZ.out) (.int .i64 x.s) (.int .i64 id) (.int .i64 x.e) (.int .i64 x.v)
        refine bodyPost_ret (results_cell2 Try.results23 _ _ rb _ _ rfl rfl b4 (by kernel_rfl)) rfl ?_
        exact ⟨by rw [HRES.out, HFD.out, ← hid]; rfl, HBX.out.trans ⟨l4.os, l4.tape, l4.output, l4.size, fun k hk => l4.block k (by have := HRB.out; omega)⟩⟩
      · have hid2 : (x.i == id) = false := by simpa using hid
        have HN2 : Hid (∀ j y, j < k + 1 → R[j]? = some y → y.i ≠ id) := fun j y hj hy => by
          by_cases e : j = k
          · subst e
            rw [HXX.out] at hy
            cases hy
            exact hid
          · exact HNE.out j y (by omega) hy
        clear hid HNE HA HAT
        go_wp2_with fail
        go_roundw
        case rel => exact ⟨k + 1, q + q2, by omega, by go_num, by simp [World.drewN, Nat.add_assoc], HN2.out⟩
        case measure => simp [intOf]; omega
    · have hke : k = R.length := by omega
      subst hke
      have hfd := rfind_no hne
      have HFD : Hid _ := hfd
      clear hfd
      have z0 : (X.drewN q).cell? ⟨rb, 0, none⟩ = some (.int .i64 0) := Blk.cell HZ.out 0
      have z1 : (X.drewN q).cell? ⟨rb, 1, none⟩ = some (.int .i64 0) := Blk.cell HZ.out 1
      have z2 : (X.drewN q).cell? ⟨rb, 2, none⟩ = some (.int .i64 0) := Blk.cell HZ.out 2
      have z3 : (X.drewN q).cell? ⟨rb, 3, none⟩ = some (.int .i64 0) := Blk.cell HZ.out 3
      have y0 : (X.drewN q).frozen? ⟨rb, 0, none⟩ = false := Blk.frozen HZ.out 0
      have y1 : (X.drewN q).frozen? ⟨rb, 1, none⟩ = false := Blk.frozen HZ.out 1
      have y2 : (X.drewN q).frozen? ⟨rb, 2, none⟩ = false := Blk.frozen HZ.out 2
      have y3 : (X.drewN q).frozen? ⟨rb, 3, none⟩ = false := Blk.frozen HZ.out 3
      clear hne HAT
      go_wp2_with fail
      obtain ⟨b4, _, l4⟩ := blk4 (show Blk (X.drewN q) rb _ 36 from HZ.out) (.int .i64 0) (.int .i64 0) (.int .i64 0) (.int .i64 0)
      refine bodyPost_ret (results_cell2 Try.results23 _ _ rb _ _ rfl rfl b4 (by kernel_rfl)) rfl ?_
      exact ⟨by rw [HRES.out, HFD.out]; rfl, HBX.out.trans ⟨l4.os, l4.tape, l4.output, l4.size, fun k hk => l4.block k (by have := HRB.out; omega)⟩⟩
end Go.Proofs.Ytadfmnlkfcigoaa
namespace Go.Proofs.Ytadfmnlkfcigoaa
open Go.RowKit Go.PlainAid Go.MapKept
set_option linter.unusedVariables false
set_option linter.unusedSimpArgs false
theorem mod_add {m f j : Nat} (hf : f < m) (hj : j ≤ m) : (f + j) % m = if f + j < m then f + j else f + j - m := by
  by_cases h : f + j < m
  · rw [if_pos h, Nat.mod_eq_of_lt h]
  · rw [if_neg h, Nat.mod_eq_sub_mod (by omega)]
    exact Nat.mod_eq_of_lt (by omega)
theorem mod_ne {m f j k : Nat} (hf : f < m) (hj : j < m) (hk : k < m) (h : j ≠ k) : (f + j) % m ≠ (f + k) % m := by
  rw [mod_add hf (by omega), mod_add hf (by omega)]
  split <;> split <;> omega
structure PSt (hb m : Nat) (la : Int) (f : Nat) (r : Rp) (Rr : List Rp) (bx : Nat) (w0 wr : World) (k : Nat) : Prop where
  ex : ∃ C sl, Blk wr hb C 67 ∧ HC C la sl m f Rr.length ∧ (∀ j x, j < k → Rr[j]? = some x → sl ((f + j) % m) = x) ∧ (∀ j x, k ≤ j → Rr[j]? = some x → sl ((f + (j + 1)) % m) = x)
  gt : ∀ j x, k ≤ j → Rr[j]? = some x → r.i < x.i
  bx : Blk wr bx (rpA r) 36
  chg : Chg (fun k => k = hb) w0 wr
  kl : k ≤ Rr.length
section
variable {hb m : Nat} {la : Int} {f : Nat} {r : Rp} {Rr : List Rp} {bx : Nat} {w0 wr wr' : World} {k : Nat}
theorem PSt.drew (h : PSt hb m la f r Rr bx w0 wr k) (q : Nat) : PSt hb m la f r Rr bx w0 (wr.drewN q) k := by
  obtain ⟨⟨C, sl, h1, h2, h3, h4⟩, g, b, c, kl⟩ := h
  exact ⟨⟨C, sl, h1, h2, h3, h4⟩, g, b, c.drewN q, kl⟩
theorem set4_blk {C : Array Value} {T : TypeId} (h : Blk wr hb C T) (o : Nat) (v0 v1 v2 v3 : Value) : Blk ((((wr.setCell ⟨hb, o, none⟩ v0).setCell ⟨hb, o + 1, none⟩ v1).setCell ⟨hb, o + 2, none⟩ v2).setCell ⟨hb, o + 3, none⟩ v3) hb ((((C.setIfInBounds o v0).setIfInBounds (o + 1) v1).setIfInBounds (o + 2) v2).setIfInBounds (o + 3) v3) T ∧ Chg (fun k => k = hb) wr ((((wr.setCell ⟨hb, o, none⟩ v0).setCell ⟨hb, o + 1, none⟩ v1).setCell ⟨hb, o + 2, none⟩ v2).setCell ⟨hb, o + 3, none⟩ v3) := by
  have s1 : ∀ (W : World) (j : Nat) (v : Value), Chg (fun b => b = hb) W (W.setCell ⟨hb, j, none⟩ v) := fun W j v => ⟨rfl, rfl, rfl, by simp [World.setCell], fun k hk hn => Below.heap_setCell _ _ _ _ hn⟩
  exact ⟨(((h.set o v0).set (o + 1) v1).set (o + 2) v2).set (o + 3) v3, (((s1 _ _ _).trans (s1 _ _ _) (fun _ _ e => e)).trans (s1 _ _ _) (fun _ _ e => e)).trans (s1 _ _ _) (fun _ _ e => e)⟩
theorem PSt.shift (h : PSt hb m la f r Rr bx w0 wr (k + 1)) (hf : f < m) (hm : m ≤ 16) (hn : Rr.length < m) {x : Rp} (hx : Rr[k]? = some x) (hxr : r.i < x.i) {o : Nat} (ho : o = 1 + 4 * ((f + (k + 1)) % m)) :
    PSt hb m la f r Rr bx w0 ((((wr.setCell ⟨hb, o, none⟩ (.int .i64 x.s)).setCell ⟨hb, o + 1, none⟩ (.int .i64 x.i)).setCell ⟨hb, o + 2, none⟩ (.int .i64 x.e)).setCell ⟨hb, o + 3, none⟩ (.int .i64 x.v)) k := by
  subst ho
  obtain ⟨⟨C, sl, h1, h2, h3, h4⟩, g, b, c, kl⟩ := h
  obtain ⟨b1, b2⟩ := set4_blk h1 (1 + 4 * ((f + (k + 1)) % m)) (.int .i64 x.s) (.int .i64 x.i) (.int .i64 x.e) (.int .i64 x.v)
  have hlt : (f + (k + 1)) % m < m := Nat.mod_lt _ (by omega)
  refine ⟨⟨_, _, b1, h2.setS _ (by omega) x, fun j y hj hy => ?_, fun j y hj hy => ?_⟩, fun j y hj hy => ?_, b2.blk b (fun e => ?_), c.trans b2 (fun _ _ e => e), by omega⟩
  · have hjl : j < Rr.length := (List.getElem?_eq_some_iff.1 hy).1
    have := mod_ne hf (show j < m by omega) (show k + 1 < m by omega) (by omega)
    simp only [updS, this, if_false]
    exact h3 j y (by omega) hy
  · have hjl : j < Rr.length := (List.getElem?_eq_some_iff.1 hy).1
    by_cases e : j = k
    · subst e
      rw [hx] at hy
      cases hy
      simp [updS]
    · have := mod_ne hf (show j + 1 < m by omega) (show k + 1 < m by omega) (by omega)
      simp only [updS, this, if_false]
      exact h4 j y (by omega) hy
  · by_cases e : j = k
    · subst e
      rw [hx] at hy
      cases hy
      exact hxr
    · exact g j y (by omega) hy
  · subst e
    have := h1.symm.trans b
    simp at this
theorem PSt.fin (h : PSt hb m la f r Rr bx w0 wr k) (hf : f < m) (hm : m ≤ 16) (hn : Rr.length < m) {o : Nat} (ho : o = 1 + 4 * ((f + k) % m)) (wr' : World)
    (he : wr' = (((((wr.setCell ⟨hb, o, none⟩ (.int .i64 r.s)).setCell ⟨hb, o + 1, none⟩ (.int .i64 r.i)).setCell ⟨hb, o + 2, none⟩ (.int .i64 r.e)).setCell ⟨hb, o + 3, none⟩ (.int .i64 r.v))).setCell ⟨hb, 67, none⟩ (.int .i64 ((Rr.length : Int) + 1))) :
    Hist wr' hb m la (Rr.take k ++ r :: Rr.drop k) ∧ Chg (fun k => k = hb) w0 wr' := by
  subst ho
  have kl := h.kl
  obtain ⟨⟨C, sl, h1, h2, h3, h4⟩, g, b, c, _⟩ := h
  obtain ⟨b1, b2⟩ := set4_blk h1 (1 + 4 * ((f + k) % m)) (.int .i64 r.s) (.int .i64 r.i) (.int .i64 r.e) (.int .i64 r.v)
  have hlt : (f + k) % m < m := Nat.mod_lt _ (by omega)
  have hlen : (Rr.take k ++ r :: Rr.drop k).length = Rr.length + 1 := by simp; omega
  have c2 : Chg (fun k => k = hb) w0 wr' := by
    rw [he]
    exact (c.trans b2 (fun _ _ e => e)).trans ⟨rfl, rfl, rfl, by simp [World.setCell], fun k hk hn => Below.heap_setCell _ _ _ _ hn⟩ (fun _ _ e => e)
  have hC' := (h2.setS ((f + k) % m) (by omega) r).set67 (Rr.length + 1)
  have hl1 : (((Rr.length + 1 : Nat) : Int)) = (Rr.length : Int) + 1 := by omega
  refine ⟨⟨_, _, f, ?_, by rw [hlen]; exact hC', hf, hm, by omega, fun i x hi => ?_⟩, c2⟩
  · rw [he, hl1]
    exact b1.set 67 _
  · by_cases e1 : i < k
    · rw [List.getElem?_append_left (by simp; omega), List.getElem?_take_of_lt e1] at hi
      have := mod_ne hf (show i < m by omega) (show k < m by omega) (by omega)
      simp only [updS, this, if_false]
      exact h3 i x e1 hi
    · rw [List.getElem?_append_right (by simp; omega)] at hi
      have hmin : (Rr.take k).length = k := by simp; omega
      rw [hmin] at hi
      by_cases e2 : i = k
      · subst e2
        simp at hi
        subst hi
        simp [updS]
      · obtain ⟨d, rfl⟩ : ∃ d, i = k + (d + 1) := ⟨i - k - 1, by omega⟩
        rw [show k + (d + 1) - k = d + 1 by omega, List.getElem?_cons_succ, List.getElem?_drop] at hi
        have hl2 : k + d < Rr.length := (List.getElem?_eq_some_iff.1 hi).1
        have := mod_ne hf (show k + (d + 1) < m by omega) (show k < m by omega) (by omega)
        simp only [updS, this, if_false]
        exact h4 (k + d) x (by omega) hi
end
end Go.Proofs.Ytadfmnlkfcigoaa
