import Derived.Test.YtfgnlfemckdfnaaRComp3
import Derived.Test.YtfgnlfemckdfnaaJC
namespace Go.Proofs.Ytfgnlfemckdfnaa
open Go.RowKit Go.PlainAid
theorem Try.info112 : (Try.prog.info? 112).map (fun i => (i.zero, i.size, i.bytes)) = some (some (.agg #[.string ⟨#[]⟩, .int .i64 0, .int .i64 0, .int .i64 0, .int .i64 0, .int .i64 0, .int .i64 0]), 7, 64) := by kernel_rfl
def zeroV : List Value := [.string ⟨#[]⟩, .int .i64 0, .int .i64 0, .int .i64 0, .int .i64 0, .int .i64 0, .int .i64 0]
def zeros : Nat → List Value
  | 0 => []
  | n + 1 => zeroV ++ zeros n
theorem zeros_len (n : Nat) : (zeros n).length = n * 7 := by
  induction n with
  | zero => rfl
  | succ n ih => simp [zeros, zeroV, ih]; omega
def cellsOf : List View → List Value
  | [] => []
  | x :: l => viewCells x ++ cellsOf l
theorem cellsOf_len (l : List View) : (cellsOf l).length = l.length * 7 := by
  induction l with
  | nil => rfl
  | cons x l ih => simp [cellsOf, viewCells, ih]; omega
theorem cellsOf_snoc (l : List View) (x : View) : cellsOf (l ++ [x]) = cellsOf l ++ viewCells x := by
  induction l with
  | nil => simp [cellsOf]
  | cons y l ih => simp [cellsOf, ih]
theorem cellsOf_get (l : List View) (i j : Nat) (x : View) (h : l[i]? = some x) (c : Value) (hc : (viewCells x)[j]? = some c) : (cellsOf l)[i * 7 + j]? = some c := by
  induction l generalizing i with
  | nil => cases h
  | cons y l ih =>
    have hj : j < 7 := by have := (List.getElem?_eq_some_iff.1 hc).1; simpa [viewCells] using this
    have hl : (viewCells y).length = 7 := rfl
    cases i with
    | zero =>
      simp at h; subst h
      simp only [cellsOf, Nat.zero_mul, Nat.zero_add]
      rw [List.getElem?_append_left (by omega)]
      exact hc
    | succ i =>
      simp only [cellsOf]
      rw [List.getElem?_append_right (by omega), hl, show (i + 1) * 7 + j - 7 = i * 7 + j from by omega]
      exact ih i (by simpa using h)
def filled (ls : List View) (r : Nat) : Array Value := (cellsOf ls ++ zeros r).toArray
theorem filled_get (ls : List View) (r j : Nat) (v : Value) (h : zeroV[j]? = some v) : (filled ls (r + 1))[ls.length * 7 + j]? = some v := by
  have hj : j < 7 := by have := (List.getElem?_eq_some_iff.1 h).1; simpa [zeroV] using this
  have hl := cellsOf_len ls
  simp only [filled, List.getElem?_toArray, zeros]
  rw [List.getElem?_append_right (by omega), hl, show ls.length * 7 + j - ls.length * 7 = j from by omega, List.getElem?_append_left (by simp [zeroV]; omega)]
  exact h
theorem filled_set (ls : List View) (r : Nat) (x : View) :
    (((((((filled ls (r + 1)).setIfInBounds (ls.length * 7) (Str x.name)).setIfInBounds (ls.length * 7 + 1) (.int .i64 x.cap)).setIfInBounds (ls.length * 7 + 2) (.int .i64 x.recaps)).setIfInBounds (ls.length * 7 + 3) (.int .i64 x.version)).setIfInBounds (ls.length * 7 + 4) (.int .i64 x.down)).setIfInBounds (ls.length * 7 + 4 + 1) (.int .i64 x.up)).setIfInBounds (ls.length * 7 + 6) (.int .i64 x.held) = filled (ls ++ [x]) r := by
  have hl := cellsOf_len ls
  unfold filled
  rw [cellsOf_snoc]
  simp only [zeros, List.setIfInBounds_toArray, ← hl]
  congr 1
  simp [zeroV, viewCells, Nat.add_assoc]
def pushV (ls : List View) (k : Nat) (r : Res (List View)) : Res (List View) := match r with
  | .error j => .error (k + j)
  | .ok (l, j) => .ok (ls ++ l, k + j)
theorem viewList_rd (n : Nat) (a l : List UInt8) : (viewList (n + 1) a).rd l = match (view a).rd l with
    | .error k => .error k
    | .ok (x, k) => pushV [x] k ((viewList n x.name).rd (l.drop k)) := by
  simp only [viewList, Codec.map, Codec.bind, pushV]
  cases (view a).rd l with
  | error k => rfl
  | ok v =>
    obtain ⟨x, k⟩ := v
    simp only
    cases (viewList n x.name).rd (l.drop k) with
    | error j => rfl
    | ok v => rfl
theorem pushV_push (ls ms : List View) (k j : Nat) (r : Res (List View)) : pushV ls k (pushV ms j r) = pushV (ls ++ ms) (k + j) r := by
  cases r with
  | error i => simp [pushV, Nat.add_assoc]
  | ok v => obtain ⟨l, i⟩ := v; simp [pushV, Nat.add_assoc]
theorem views_rd (l : List UInt8) : views.rd l = match (num 0 64).rd l with
    | .error k => .error k
    | .ok (n, k) => pushV [] k ((viewList n.toNat []).rd (l.drop k)) := by
  simp only [views, Codec.map, Codec.bind, pushV]
  cases (num 0 64).rd l with
  | error k => rfl
  | ok v =>
    obtain ⟨n, k⟩ := v
    simp only
    cases (viewList n.toNat []).rd (l.drop k) with
    | error j => rfl
    | ok v => obtain ⟨x, y⟩ := v; simp
theorem viewList_end (a l : List UInt8) : (viewList 0 a).rd l = .ok ([], 0) := rfl
def VRow (w : World) (base : Nat) (ao : Option Addr) (c : Nat) (l : List View) : Prop := (l = [] ∧ ao = none ∧ c = 0) ∨ ∃ vb, ao = some ⟨vb, 0, none⟩ ∧ base ≤ vb ∧ c = l.length ∧ 0 < l.length ∧ Blk w vb (cellsOf l).toArray 112
theorem zeros_get (n : Nat) : ∀ i, i < n * 7 → (zeros n)[i]? = zeroV[i % 7]? := by
  induction n with
  | zero => intro i h; omega
  | succ n ih =>
    intro i h
    simp only [zeros]
    by_cases hi : i < 7
    · rw [List.getElem?_append_left (by simp [zeroV]; omega), Nat.mod_eq_of_lt hi]
    · rw [List.getElem?_append_right (by simp [zeroV]; omega), show zeroV.length = 7 from rfl, ih (i - 7) (by omega)]
      congr 1
      omega
theorem made_zeros (n : Nat) : (madeCells (Value.agg #[.string ⟨#[]⟩, .int .i64 0, .int .i64 0, .int .i64 0, .int .i64 0, .int .i64 0, .int .i64 0]).cells (n * 7)).toList = zeros n := by
  apply List.ext_getElem?
  intro i
  by_cases hi : i < n * 7
  · rw [zeros_get n i hi]
    simp only [madeCells, Value.cells]
    rw [Array.getElem?_toList, Array.getElem?_map]
    rw [Array.getElem?_range, if_pos hi]
    show some (zeroV.toArray[i % 7]!) = zeroV[i % 7]?
    have h7 : i % 7 < 7 := Nat.mod_lt _ (by decide)
    generalize i % 7 = q at *
    rcases (show q = 0 ∨ q = 1 ∨ q = 2 ∨ q = 3 ∨ q = 4 ∨ q = 5 ∨ q = 6 from by omega) with rfl | rfl | rfl | rfl | rfl | rfl | rfl <;> rfl
  · rw [List.getElem?_eq_none (by simp [madeCells]; omega), List.getElem?_eq_none (by rw [zeros_len]; omega)]
theorem set_same (C : Array Value) (i : Nat) (v : Value) (h : C[i]? = some v) : C.setIfInBounds i v = C := by
  apply Array.ext_getElem?
  intro j
  rw [Array.getElem?_setIfInBounds]
  split
  · rename_i e; subst e
    have := (Array.getElem?_eq_some_iff.1 h).1
    rw [if_pos this, h]
  · rfl
theorem RStep.also {hb mb vb : Nat} {w w1 w2 : World} (h : RStep hb mb w w1) (k : RStep hb vb w1 w2) (hv : w.heap.size ≤ vb) : RStep hb mb w w2 :=
  ⟨k.os.trans h.os, k.tape.trans h.tape, k.output.trans h.output, Nat.le_trans h.size k.size,
    fun i hi h1 h2 => (k.block i (Nat.lt_of_lt_of_le hi h.size) h1 (by omega)).trans (h.block i hi h1 h2)⟩
theorem blk_of_owns {w : World} {base vb m : Nat} {zs : List Value} (h : w.ownsRow base 112 7 (.slice (some ⟨vb, 0, none⟩) m m) m zs) : Blk w vb zs.toArray 112 := by
  rcases h.2 with ⟨e, _⟩ | ⟨g, cap, cur, e, _, hg, _, _, hs, ht⟩
  · cases e
  · cases e
    rw [List.take_of_length_le (by rw [Array.length_toList]; omega)] at ht
    subst ht
    exact hg
theorem RSt.grown {hb b off n cap : Nat} {bs : List UInt8} {p : Nat} {w w' : World} (h : RSt hb (some ⟨b, off, none⟩) n cap bs p w) (hg : w.grownBy w' none) (hbw : b < w.heap.size) : RSt hb (some ⟨b, off, none⟩) n cap bs p w' :=
  h.other (hg.block _ h.lt (by simp)) (fun b' off' e => by cases e; exact hg.block _ hbw (by simp))
set_option maxRecDepth 100000 in
set_option maxHeartbeats 3200000 in
theorem views_r (hb b off n cap : Nat) (bs : List UInt8) (p mb mo : Nat) (C : Array Value) (T : TypeId) (w : World) (hS : RSt hb (some ⟨b, off, none⟩) n cap bs p w)
    (hB : Blk w mb C T) (ho : C[mo]? = some (.slice none 0 0)) (hne : mb ≠ hb) (hne2 : b ≠ mb) (hbw : b < w.heap.size) :
    Calls Try.prog 78 #[RH hb, .pointer (some ⟨mb, mo, none⟩)] w (RPostV hb mb (some ⟨b, off, none⟩) n cap bs p w (views.rd (bs.drop p)) fun l e w' => e = tup ∧ ∃ ao c, Blk w' mb (C.setIfInBounds mo (.slice ao l.length c)) T ∧ VRow w' w.heap.size ao c l) := by
  have hx := hB.cell mo
  rw [ho] at hx
  have hlt := hS.lt
  have hml := hB.lt
  unfold RH
  have hnew : Blk (w.alloc (.cells #[.int .i64 0] 3)) w.heap.size #[.int .i64 0] 3 := heap_alloc_new w _
  go_enter Try.func78, Try.ntmps78
  go_wp2_with fail
  refine (number_r hb b off n cap bs p w.heap.size 0 0 64 _ 3 _ 0 64 _ (hS.alloc hbw _) hnew rfl (by omega) (by omega) rfl rfl (by decide) (by decide)).mono ?_
  intro e1 w1 h1
  unfold RPostV at h1
  cases hr1 : (num 0 64).rd (bs.drop p) with
  | error k =>
    have hn : views.rd (bs.drop p) = .error k := by rw [views_rd, hr1]
    rw [hr1] at h1
    obtain ⟨rfl, hS1, hst1⟩ := h1
    refine ⟨rfl, ?_⟩
    unfold RPostV
    rw [hn]
    exact ⟨rfl, hS1, hst1.fresh rfl⟩
  | ok v =>
    obtain ⟨x, k1⟩ := v
    have hxr := num_ok hr1
    have hn : views.rd (bs.drop p) = pushV [] k1 ((viewList x.toNat []).rd (bs.drop (p + k1))) := by rw [views_rd, hr1]; simp only [List.drop_drop]
    rw [hr1] at h1
    obtain ⟨⟨rfl, hB1⟩, hS1, hst1⟩ := h1
    have hT1 : RStep hb mb w w1 := hst1.fresh rfl
    have hsz := hT1.size
    have hsz1 := hst1.size
    simp only [World.size_alloc] at hsz1
    have hBm : Blk w1 mb C T := (hst1.block mb (by simp; omega) (by omega) (by omega)).trans ((Below.heap_alloc _ _ _ hml).trans hB)
    obtain ⟨m, rfl⟩ : ∃ m : Nat, x = m := ⟨x.toNat, by omega⟩
    rw [Int.toNat_natCast] at hn
    have c1 : w1.cell? ⟨w.heap.size, 0, none⟩ = some (.int .i64 (m : Int)) := by rw [hB1.cell]; rfl
    have cm : w1.cell? ⟨mb, mo, none⟩ = some (.slice none 0 0) := by rw [hBm.cell]; exact ho
    have zm := hBm.frozen mo
    have HN : Hid _ := hn
    have hkw : w.heap.size < w1.heap.size := by omega
    clear hn hr1 hst1 hnew hx hB
    unfold tup
    by_cases h0 : m = 0
    · subst h0
      have hfin : views.rd (bs.drop p) = .ok ([], k1 + 0) := by rw [HN.out, viewList_end]; rfl
      have HF : Hid _ := hfin
      clear hfin HN
      have hbn : (((0 : Nat) : Int) != 0) = false := rfl
      generalize w.heap.size = kk at *
      go_wp2
      go_quiet (fail)
      have hS1q := hS1.drewN nq
      have hT1q := hT1.drewN nq
      have hBmq : Blk (w1.drewN nq) mb C T := hBm
      have cmq : (w1.drewN nq).cell? ⟨mb, mo, none⟩ = some (.slice none 0 0) := cm
      clear hS1 hT1 hBm cm zm c1 hB1
      generalize w1.drewN nq = w1q at *
      go_wp2
      go_rounds 1
      go_end0
      unfold RPostV
      rw [HF.out]
      exact ⟨⟨rfl, none, 0, by show Blk w1q mb (C.setIfInBounds mo (.slice none 0 0)) T; rw [set_same C mo _ ho]; exact hBmq, Or.inl ⟨rfl, rfl, rfl⟩⟩, by simpa using hS1q, hT1q⟩
    · have hbn : ((m : Int) != 0) = true := by rw [bne_iff_ne]; omega
      generalize hkk : w.heap.size = kk at *
      obtain ⟨i0, hi, hz0, hz1, hz2⟩ := info_parts Try.info112
      go_wp2
      go_quiet (fail)
      have hS1q := hS1.drewN nq
      have hT1q := hT1.drewN nq
      have hBmq : Blk (w1.drewN nq) mb C T := hBm
      have cmq : (w1.drewN nq).cell? ⟨mb, mo, none⟩ = some (.slice none 0 0) := cm
      have zmq : (w1.drewN nq).frozen? ⟨mb, mo, none⟩ = false := zm
      have c1q : (w1.drewN nq).cell? ⟨kk, 0, none⟩ = some (.int .i64 (m : Int)) := c1
      have hzq : w1.heap.size = (w1.drewN nq).heap.size := rfl
      rw [hzq] at hsz hsz1 hkw
      clear hS1 hT1 hBm cm zm c1 hB1 hzq
      generalize w1.drewN nq = w1q at *
      go_wp2_with (first
        | (at_make; go_must (refine wpList_make_full _ rfl _ _ 33 rfl w1q.heap.size 112 i0 _ 7 Try.underlying33 hi hz0 hz1 _ _ _ _ m rfl rfl rfl rfl (by rw [hz2]; omega) (by unfold maxLen; omega) (Nat.le_refl _) ?_))
        | fail)
      intro w2 hown hgr
      rw [show (madeCells #[Value.string ⟨#[]⟩, .int .i64 0, .int .i64 0, .int .i64 0, .int .i64 0, .int .i64 0, .int .i64 0] (m * 7)).toList = zeros m from made_zeros m] at hown
      have hBv := blk_of_owns hown
      have hS2 := hS1q.grown hgr (by omega)
      have hB2 : Blk w2 mb C T := (hgr.block mb (by omega) (by simp)).trans hBmq
      have hT2 : RStep hb mb w w2 := hT1q.trans ⟨hgr.os, hgr.tape, hgr.output, hgr.size, fun k hk _ _ => hgr.block k hk (by simp)⟩
      have hz2' := hgr.size
      generalize hvb : w1q.heap.size = vb at *
      have hS3 := hS2.setM hne hne2 mo (.slice (some ⟨vb, 0, none⟩) m m)
      have hB3 := hB2.set mo (.slice (some ⟨vb, 0, none⟩) m m)
      have hT3 := hT2.trans (RStep.setM (hb := hb) (mb := mb) w2 mo (.slice (some ⟨vb, 0, none⟩) m m))
      have hBv3 : Blk (w2.setCell ⟨mb, mo, none⟩ (.slice (some ⟨vb, 0, none⟩) m m)) vb (zeros m).toArray 112 := (Below.heap_setCell _ _ _ _ (by simp; omega)).trans hBv
      have q2 : w2.cell? ⟨mb, mo, none⟩ = some (.slice none 0 0) := by rw [hB2.cell]; exact ho
      have y2 := hB2.frozen mo
      have hcs : (w2.setCell ⟨mb, mo, none⟩ (.slice (some ⟨vb, 0, none⟩) m m)).cell? ⟨mb, mo, none⟩ = some (.slice (some ⟨vb, 0, none⟩) m m) := by rw [hB3.cell]; exact get_eq C mo _ _ ho
      clear hown hgr hBv hS2 hB2 hT2 hS1q hT1q hBmq cmq zmq c1q hi hz0 hz1 hz2
      go_wp2_with fail
      have hz3 : vb ≤ (w2.setCell ⟨mb, mo, none⟩ (.slice (some ⟨vb, 0, none⟩) m m)).heap.size := by simpa [World.setCell] using hz2'
      clear q2 y2 hcs hz2'
      generalize w2.setCell ⟨mb, mo, none⟩ (.slice (some ⟨vb, 0, none⟩) m m) = w3 at *
      generalize hD : C.setIfInBounds mo (.slice (some ⟨vb, 0, none⟩) m m) = D at *
      have hDo : D[mo]? = some (.slice (some ⟨vb, 0, none⟩) m m) := by rw [← hD]; exact get_eq C mo _ _ ho
      have HDD : Hid _ := hD
      have HKK : Hid _ := hkk
      clear hD hbn hkk
      go_loopw [5, 28] (fun av iv wr => ∃ (ls : List View) (a : List UInt8) (q : Nat), iv = .int .i64 (ls.length : Nat) ∧ ls.length ≤ m ∧ av = .string ⟨a.toArray⟩ ∧ views.rd (bs.drop p) = pushV ls q ((viewList (m - ls.length) a).rd (bs.drop (p + q))) ∧ RSt hb (some ⟨b, off, none⟩) n cap bs (p + q) wr ∧ Blk wr mb D T ∧ Blk wr vb (filled ls (m - ls.length)) 112 ∧ RStep hb mb w wr) (fun _ i _ => m - (intOf i).toNat)
      case atStart => exact ⟨[], [], k1, rfl, by simp, rfl, by simpa using HN.out, hS3, hB3, by simpa [filled, cellsOf] using hBv3, hT3⟩
      case round =>
        obtain ⟨ls, a, q, rfl, hls, rfl, hinv, hSr, hBr, hVr, hTr⟩ := hrel
        clear hS3 hB3 hT3 hBv3 HN hz3
        have hzr := hTr.size
        have hvl := hVr.lt
        have HI : Hid _ := hinv
        clear hinv
        have cr : wr.cell? ⟨mb, mo, none⟩ = some (.slice (some ⟨vb, 0, none⟩) m m) := by rw [hBr.cell]; exact hDo
        have HK2 := HKK.out
        by_cases hlt2 : ls.length < m
        · obtain ⟨r, hr⟩ : ∃ r, m - ls.length = r + 1 := ⟨m - ls.length - 1, by omega⟩
          rw [hr] at hVr HI
          have hvw := view_r hb b off n cap bs (p + q) vb (ls.length * 7) (filled ls (r + 1)) 112 [] a (.int .i64 0) (.int .i64 0) (.int .i64 0) (.int .i64 0) (.int .i64 0) (.int .i64 0) wr hSr hVr
            (filled_get ls r 0 _ rfl) (filled_get ls r 1 _ rfl) (filled_get ls r 2 _ rfl) (filled_get ls r 3 _ rfl) (filled_get ls r 4 _ rfl) (filled_get ls r 5 _ rfl) (filled_get ls r 6 _ rfl) (by omega) (by omega) (by omega)
          unfold RH Str at hvw
          have HV : Hid _ := hVr
          have HK3 : Hid _ := HK2
          have HR : Hid _ := hr
          clear hVr HK2 hr
          generalize hkl : ls.length = k at *
          go_wp2_with fail
          refine hvw.mono ?_
          intro e2 w4 h2
          unfold RPostV at h2
          cases hr2 : (view a).rd (bs.drop (p + q)) with
          | error j =>
            rw [hr2] at h2
            obtain ⟨rfl, hS4, hst4⟩ := h2
            have hn : views.rd (bs.drop p) = .error (q + j) := by rw [HI.out, viewList_rd, hr2]; rfl
            refine ⟨rfl, ?_⟩
            unfold RPostV
            rw [hn]
            exact ⟨rfl, by rw [← Nat.add_assoc]; exact hS4, hTr.also hst4 (by have := HK3.out; omega)⟩
          | ok v =>
            obtain ⟨x, j⟩ := v
            rw [hr2] at h2
            obtain ⟨⟨rfl, hB4⟩, hS4, hst4⟩ := h2
            have hn : views.rd (bs.drop p) = pushV (ls ++ [x]) (q + j) ((viewList r x.name).rd (bs.drop (p + (q + j)))) := by
              rw [HI.out, viewList_rd, hr2]
              simp only [pushV_push, List.drop_drop, Nat.add_assoc]
            have HN2 : Hid _ := hn
            have hB4' : Blk w4 vb (filled (ls ++ [x]) r) 112 := by
              rw [← filled_set]
              rw [hkl]
              exact hB4
            have hBm4 : Blk w4 mb D T := (hst4.block mb (by omega) hne (by omega)).trans hBr
            have hT4 := hTr.also hst4 (by have := HK3.out; omega)
            have cx : w4.cell? ⟨vb, k * 7, none⟩ = some (.string ⟨x.name.toArray⟩) := by
              rw [hB4'.cell]
              simp only [filled, List.getElem?_toArray]
              rw [List.getElem?_append_left (by rw [cellsOf_len]; simp; omega)]
              have := cellsOf_get (ls ++ [x]) ls.length 0 x (by simp) _ rfl
              rw [hkl] at this
              exact this
            clear hvw hB4 hst4 hn hr2 HI HV hSr hBr hTr cr
            unfold tup
            go_wp2
            go_roundw
            case rel => exact ⟨ls ++ [x], x.name, q + j, by simp only [List.length_append, List.length_singleton, hkl]; go_num, by simp [hkl]; omega, rfl, by rw [HN2.out]; congr 3; simp [hkl]; have := HR.out; omega, by rw [← Nat.add_assoc]; exact hS4, hBm4, by rw [show m - (ls ++ [x]).length = r from by simp [hkl]; have := HR.out; omega]; exact hB4', hT4⟩
            case measure => simp [intOf]; omega
        · have hlm : ls.length = m := by omega
          have hn : views.rd (bs.drop p) = .ok (ls, q + 0) := by
            rw [HI.out, show m - ls.length = 0 from by omega, viewList_end]
            simp [pushV]
          have HN2 : Hid _ := hn
          have HV : Hid _ := hVr
          have HL : Hid _ := hlm
          clear hn HI hVr HK2
          generalize hkl : ls.length = k at *
          go_wp2
          go_end0
          unfold RPostV
          rw [HN2.out]
          have hVr := HV.out
          rw [show m - k = 0 from by have := HL.out; omega] at hVr
          refine ⟨⟨rfl, some ⟨vb, 0, none⟩, m, ?_, Or.inr ⟨vb, rfl, by have := HKK.out; omega, by have := HL.out; omega, by have := HL.out; omega, by have h := hVr; simp only [filled, zeros, List.append_nil] at h; exact h⟩⟩, by simpa using hSr, hTr⟩
          rw [hkl, HL.out, HDD.out]
          exact hBr
end Go.Proofs.Ytfgnlfemckdfnaa
namespace Go.Proofs.Ytfgnlfemckdfnaa
open Go.RowKit Go.PlainAid
theorem ahead_dat_r (a : Addr) (w : World) : (nilAhead 294 118 (.pointer (some a)) "sluice/wire.data").run Try.prog w = .ok (some false) w := by kernel_rfl
def segCells (f t q a : Int) (d : Value) : Array Value := #[.int .i64 f, .int .i64 t, .int .i64 q, .int .i64 a, d]
theorem dataC_rd (q : Int) (l : List UInt8) : (dataC q).rd l = match (num (lowOf q) (highOf q)).rd l with
    | .error k => .error k
    | .ok (n, k) => match (some' n.toNat).rd (l.drop k) with
      | .error j => .error (k + j)
      | .ok (s, j) => .ok (s, k + j) := by
  simp only [dataC, Codec.map, Codec.bind]
  cases (num (lowOf q) (highOf q)).rd l with
  | error k => rfl
  | ok v =>
    obtain ⟨n, k⟩ := v
    simp only
    cases (some' n.toNat).rd (l.drop k) with
    | error j => rfl
    | ok v => rfl
set_option maxRecDepth 100000 in
set_option maxHeartbeats 3200000 in
theorem segment_r (hb b off n cap : Nat) (bs : List UInt8) (p mb : Nat) (w : World) (hS : RSt hb (some ⟨b, off, none⟩) n cap bs p w)
    (hB : Blk w mb (segCells 0 0 0 0 (.slice none 0 0)) 46) (hne : mb ≠ hb) (hne2 : b ≠ mb) (hbw : b < w.heap.size) :
    Calls Try.prog 38 #[RH hb, .pointer (some ⟨mb, 0, none⟩)] w (RPostV hb mb (some ⟨b, off, none⟩) n cap bs p w (segment.rd (bs.drop p)) fun s e w' => e = tup ∧ ∃ ao c, Blk w' mb (segCells s.src s.dst s.seq s.ack (.slice ao s.data.length c)) 46 ∧ w'.ownsRow w.heap.size 5 1 (.slice ao s.data.length c) s.data.length (s.data.map B)) := by
  have A1 := ahead_num_r ⟨hb, 0, none⟩
  have A2 := ahead_dat_r ⟨hb, 0, none⟩
  unfold RH
  go_enter Try.func38, Try.ntmps38
  go_wp2_with fail
  try go_region_dies
  refine (number_r hb b off n cap bs (p) mb 0 0 15 (segCells 0 0 0 0 (.slice none 0 0)) 46 (.int .i64 0) 0 15 _ (by first | exact hS | exact hS.drew) (by exact hB) (by rfl) hne hne2 rfl rfl (by decide) (by decide)).mono ?_
  intro e1 w1 h1
  unfold RPostV at h1
  cases hr1 : (num 0 15).rd (bs.drop (p)) with
  | error j1 =>
    have hn : segment.rd (bs.drop p) = .error (j1) := by simp only [segment, pair, Codec.bind, Codec.map, hr1]
    rw [hr1] at h1
    obtain ⟨rfl, hS1, hsd1⟩ := h1
    have hst1 : RStep hb mb w w1 := by first | exact hsd1 | exact hsd1.ofDrew
    refine ⟨rfl, ?_⟩
    unfold RPostV
    rw [hn]
    exact ⟨rfl, by simpa only [Nat.add_assoc] using hS1, hst1⟩
  | ok v1 =>
    obtain ⟨x1, k1⟩ := v1
    rw [hr1] at h1
    obtain ⟨⟨rfl, hB1⟩, hS1, hsd1⟩ := h1
    have hT1 : RStep hb mb w w1 := (by first | exact hsd1 | exact hsd1.ofDrew)
    unfold tup
    first | (rename_i hK; refine hK _ _ ?_; refine wpAny_done (by kernel_rfl) ?_ _; clear hK) | skip
    have HR1 : Hid _ := hr1
    clear hr1 hsd1
    go_wp2_with fail
    try go_region_dies
    refine (number_r hb b off n cap bs (p + k1) mb 1 0 15 _ 46 (.int .i64 0) 0 15 _ (by first | exact hS1 | exact hS1.drew) (by exact hB1) (by rfl) hne hne2 rfl rfl (by decide) (by decide)).mono ?_
    intro e2 w2 h2
    unfold RPostV at h2
    cases hr2 : (num 0 15).rd (bs.drop (p + k1)) with
    | error j2 =>
      have hn : segment.rd (bs.drop p) = .error (k1 + (j2)) := by simp only [segment, pair, Codec.bind, Codec.map, List.drop_drop, HR1.out, hr2]
      rw [hr2] at h2
      obtain ⟨rfl, hS2, hsd2⟩ := h2
      have hst2 : RStep hb mb w1 w2 := by first | exact hsd2 | exact hsd2.ofDrew
      refine ⟨rfl, ?_⟩
      unfold RPostV
      rw [hn]
      exact ⟨rfl, by simpa only [Nat.add_assoc] using hS2, (hT1.trans hst2)⟩
    | ok v2 =>
      obtain ⟨x2, k2⟩ := v2
      rw [hr2] at h2
      obtain ⟨⟨rfl, hB2⟩, hS2, hsd2⟩ := h2
      have hT2 : RStep hb mb w w2 := hT1.trans (by first | exact hsd2 | exact hsd2.ofDrew)
      unfold tup
      first | (rename_i hK; refine hK _ _ ?_; refine wpAny_done (by kernel_rfl) ?_ _; clear hK) | skip
      have HR2 : Hid _ := hr2
      clear hr2 hsd2
      go_wp2_with fail
      try go_region_dies
      refine (number_r hb b off n cap bs (p + k1 + k2) mb 2 0 1099511627776 _ 46 (.int .i64 0) 0 1099511627776 _ (by first | exact hS2 | exact hS2.drew) (by exact hB2) (by rfl) hne hne2 rfl rfl (by decide) (by decide)).mono ?_
      intro e3 w3 h3
      unfold RPostV at h3
      cases hr3 : (num 0 1099511627776).rd (bs.drop (p + k1 + k2)) with
      | error j3 =>
        have hn : segment.rd (bs.drop p) = .error (k1 + (k2 + (j3))) := by simp only [segment, pair, Codec.bind, Codec.map, maxN, List.drop_drop, ← Nat.add_assoc, HR1.out, HR2.out, hr3]
        rw [hr3] at h3
        obtain ⟨rfl, hS3, hsd3⟩ := h3
        have hst3 : RStep hb mb w2 w3 := by first | exact hsd3 | exact hsd3.ofDrew
        refine ⟨rfl, ?_⟩
        unfold RPostV
        rw [hn]
        exact ⟨rfl, by simpa only [Nat.add_assoc] using hS3, (hT2.trans hst3)⟩
      | ok v3 =>
        obtain ⟨x3, k3⟩ := v3
        rw [hr3] at h3
        obtain ⟨⟨rfl, hB3⟩, hS3, hsd3⟩ := h3
        have hT3 : RStep hb mb w w3 := hT2.trans (by first | exact hsd3 | exact hsd3.ofDrew)
        unfold tup
        first | (rename_i hK; refine hK _ _ ?_; refine wpAny_done (by kernel_rfl) ?_ _; clear hK) | skip
        have HR3 : Hid _ := hr3
        clear hr3 hsd3
        go_wp2_with fail
        try go_region_dies
        refine (number_r hb b off n cap bs (p + k1 + k2 + k3) mb 3 0 1099511627776 _ 46 (.int .i64 0) 0 1099511627776 _ (by first | exact hS3 | exact hS3.drew) (by exact hB3) (by rfl) hne hne2 rfl rfl (by decide) (by decide)).mono ?_
        intro e4 w4 h4
        unfold RPostV at h4
        cases hr4 : (num 0 1099511627776).rd (bs.drop (p + k1 + k2 + k3)) with
        | error j4 =>
          have hn : segment.rd (bs.drop p) = .error (k1 + (k2 + (k3 + (j4)))) := by simp only [segment, pair, Codec.bind, Codec.map, maxN, List.drop_drop, ← Nat.add_assoc, HR1.out, HR2.out, HR3.out, hr4]
          rw [hr4] at h4
          obtain ⟨rfl, hS4, hsd4⟩ := h4
          have hst4 : RStep hb mb w3 w4 := by first | exact hsd4 | exact hsd4.ofDrew
          refine ⟨rfl, ?_⟩
          unfold RPostV
          rw [hn]
          exact ⟨rfl, by simpa only [Nat.add_assoc] using hS4, (hT3.trans hst4)⟩
        | ok v4 =>
          obtain ⟨x4, k4⟩ := v4
          rw [hr4] at h4
          obtain ⟨⟨rfl, hB4⟩, hS4, hsd4⟩ := h4
          have hT4 : RStep hb mb w w4 := hT3.trans (by first | exact hsd4 | exact hsd4.ofDrew)
          unfold tup
          first | (rename_i hK; refine hK _ _ ?_; refine wpAny_done (by kernel_rfl) ?_ _; clear hK) | skip
          have HR4 : Hid _ := hr4
          clear hr4 hsd4
          have q2 : w4.cell? ⟨mb, 2, none⟩ = some (.int .i64 x3) := by rw [hB4.cell]; rfl
          have q4 : w4.cell? ⟨mb, 4, none⟩ = some (.slice none 0 0) := by rw [hB4.cell]; rfl
          have hlt := hS4.lt
          have hml := hB4.lt
          have hz4 := hT4.size
          have hnew : Blk (w4.alloc (.cells #[.int .i64 0] 3)) w4.heap.size #[.int .i64 0] 3 := heap_alloc_new w4 _
          by_cases hq0 : x3 = 0
          · have el : lowOf x3 = 0 := by unfold lowOf; rw [if_pos hq0]
            have eh : highOf x3 = 0 := by unfold highOf; rw [if_pos hq0]
            subst hq0
            go_wp2_with fail
            refine (number_r hb b off n cap bs (p + k1 + k2 + k3 + k4) w4.heap.size 0 0 0 _ 3 _ 0 0 _ (hS4.alloc (by omega) _) hnew rfl (by omega) (by omega) rfl rfl (by decide) (by decide)).mono ?_
            intro e5 w5 h5
            unfold RPostV at h5
            cases hr5 : (num 0 0).rd (bs.drop (p + k1 + k2 + k3 + k4)) with
            | error j5 =>
              have hn : segment.rd (bs.drop p) = .error (k1 + (k2 + (k3 + (k4 + j5)))) := by simp only [segment, pair, Codec.bind, Codec.map, maxN, dataC_rd, el, eh, List.drop_drop, ← Nat.add_assoc, HR1.out, HR2.out, HR3.out, HR4.out, hr5]
              rw [hr5] at h5
              obtain ⟨rfl, hS5, hst5⟩ := h5
              refine ⟨rfl, ?_⟩
              unfold RPostV
              rw [hn]
              exact ⟨rfl, by simpa only [Nat.add_assoc] using hS5, hT4.trans (hst5.fresh rfl)⟩
            | ok v5 =>
              obtain ⟨x5, k5⟩ := v5
              have hxr := num_ok hr5
              rw [hr5] at h5
              obtain ⟨⟨rfl, hB5⟩, hS5, hst5⟩ := h5
              have hT5 : RStep hb mb w4 w5 := hst5.fresh rfl
              have hz5 := hT5.size
              have hBm : Blk w5 mb _ 46 := (hst5.block mb (by simp; omega) (by omega) (by omega)).trans ((Below.heap_alloc _ _ _ hml).trans hB4)
              obtain ⟨m, rfl⟩ : ∃ m : Nat, x5 = m := ⟨x5.toNat, by omega⟩
              have c5 : w5.cell? ⟨w4.heap.size, 0, none⟩ = some (.int .i64 (m : Int)) := by rw [hB5.cell]; rfl
              have HR5 : Hid _ := hr5
              have HE1 : Hid _ := el
              have HE2 : Hid _ := eh
              clear hr5 hst5 hnew hB5 q2 q4 el eh
              generalize w4.heap.size = kk at *
              unfold tup
              go_wp2_with fail
              try go_region_dies
              all_goals
                refine (data_r hb b off n cap bs (p + k1 + k2 + k3 + k4 + k5) mb 4 m _ 46 _ _ (by first | exact hS5 | exact hS5.drew) (by exact hBm) (by rfl) hne hne2 (by exact (show b < w5.heap.size by omega)) (by omega)).mono ?_
                intro e6 w6 h6
                unfold RPostV at h6
                cases hr6 : (some' m).rd (bs.drop (p + k1 + k2 + k3 + k4 + k5)) with
                | error j6 =>
                  have hn : segment.rd (bs.drop p) = .error (k1 + (k2 + (k3 + (k4 + (k5 + j6))))) := by simp only [segment, pair, Codec.bind, Codec.map, maxN, dataC_rd, HE1.out, HE2.out, List.drop_drop, ← Nat.add_assoc, HR1.out, HR2.out, HR3.out, HR4.out, HR5.out, Int.toNat_natCast, hr6]
                  rw [hr6] at h6
                  obtain ⟨rfl, hS6, hsd6⟩ := h6
                  have hst6 : RStep hb mb w5 w6 := by first | exact hsd6 | exact hsd6.ofDrew
                  refine ⟨rfl, ?_⟩
                  unfold RPostV
                  rw [hn]
                  exact ⟨rfl, by simpa only [Nat.add_assoc] using hS6, hT4.trans (hT5.trans hst6)⟩
                | ok v6 =>
                  obtain ⟨s, k6⟩ := v6
                  have hn : segment.rd (bs.drop p) = .ok (⟨x1, x2, 0, x4, s⟩, k1 + (k2 + (k3 + (k4 + (k5 + k6))))) := by simp only [segment, pair, Codec.bind, Codec.map, maxN, dataC_rd, HE1.out, HE2.out, List.drop_drop, ← Nat.add_assoc, HR1.out, HR2.out, HR3.out, HR4.out, HR5.out, Int.toNat_natCast, hr6]
                  have hsl : s.length = m := by
                    simp only [some'] at hr6
                    split at hr6
                    · cases hr6
                    · cases hr6; rw [List.length_take]; omega
                  rw [hr6] at h6
                  obtain ⟨⟨rfl, ao, c, hB6, hown⟩, hS6, hsd6⟩ := h6
                  have hst6 : RStep hb mb w5 w6 := by first | exact hsd6 | exact hsd6.ofDrew
                  have HN : Hid _ := hn
                  have hown6 : w6.ownsRow w.heap.size 5 1 (.slice ao m c) m (s.map B) := by
                    refine ⟨hown.1, hown.2.imp id ?_⟩
                    rintro ⟨g, c', cur, e1, e2, e3⟩
                    exact ⟨g, c', cur, e1, Nat.le_trans (show w.heap.size ≤ w5.heap.size by omega) e2, e3⟩
                  clear hn hr6 hsd6 hown
                  subst hsl
                  unfold tup
                  first | (rename_i hK; refine hK _ _ ?_; refine wpAny_done (by kernel_rfl) ?_ _; clear hK) | go_wp2
                  go_end0
                  unfold RPostV
                  rw [HN.out]
                  exact ⟨⟨rfl, ao, c, by exact hB6, hown6⟩, by simpa only [Nat.add_assoc] using hS6, hT4.trans (hT5.trans hst6)⟩
          · have el : lowOf x3 = 1 := by unfold lowOf; rw [if_neg hq0]
            have eh : highOf x3 = 4000 := by unfold highOf; rw [if_neg hq0]
            have hqb : (x3 == 0) = false := by rw [beq_eq_false_iff_ne]; exact hq0
            go_wp2_with fail
            refine (number_r hb b off n cap bs (p + k1 + k2 + k3 + k4) w4.heap.size 0 1 4000 _ 3 _ 1 4000 _ (hS4.alloc (by omega) _) hnew rfl (by omega) (by omega) rfl rfl (by decide) (by decide)).mono ?_
            intro e5 w5 h5
            unfold RPostV at h5
            cases hr5 : (num 1 4000).rd (bs.drop (p + k1 + k2 + k3 + k4)) with
            | error j5 =>
              have hn : segment.rd (bs.drop p) = .error (k1 + (k2 + (k3 + (k4 + j5)))) := by simp only [segment, pair, Codec.bind, Codec.map, maxN, dataC_rd, el, eh, List.drop_drop, ← Nat.add_assoc, HR1.out, HR2.out, HR3.out, HR4.out, hr5]
              rw [hr5] at h5
              obtain ⟨rfl, hS5, hst5⟩ := h5
              refine ⟨rfl, ?_⟩
              unfold RPostV
              rw [hn]
              exact ⟨rfl, by simpa only [Nat.add_assoc] using hS5, hT4.trans (hst5.fresh rfl)⟩
            | ok v5 =>
              obtain ⟨x5, k5⟩ := v5
              have hxr := num_ok hr5
              rw [hr5] at h5
              obtain ⟨⟨rfl, hB5⟩, hS5, hst5⟩ := h5
              have hT5 : RStep hb mb w4 w5 := hst5.fresh rfl
              have hz5 := hT5.size
              have hBm : Blk w5 mb _ 46 := (hst5.block mb (by simp; omega) (by omega) (by omega)).trans ((Below.heap_alloc _ _ _ hml).trans hB4)
              obtain ⟨m, rfl⟩ : ∃ m : Nat, x5 = m := ⟨x5.toNat, by omega⟩
              have c5 : w5.cell? ⟨w4.heap.size, 0, none⟩ = some (.int .i64 (m : Int)) := by rw [hB5.cell]; rfl
              have HR5 : Hid _ := hr5
              have HE1 : Hid _ := el
              have HE2 : Hid _ := eh
              clear hr5 hst5 hnew hB5 q2 q4 el eh
              generalize w4.heap.size = kk at *
              unfold tup
              go_wp2_with fail
              try go_region_dies
              all_goals
                refine (data_r hb b off n cap bs (p + k1 + k2 + k3 + k4 + k5) mb 4 m _ 46 _ _ (by first | exact hS5 | exact hS5.drew) (by exact hBm) (by rfl) hne hne2 (by exact (show b < w5.heap.size by omega)) (by omega)).mono ?_
                intro e6 w6 h6
                unfold RPostV at h6
                cases hr6 : (some' m).rd (bs.drop (p + k1 + k2 + k3 + k4 + k5)) with
                | error j6 =>
                  have hn : segment.rd (bs.drop p) = .error (k1 + (k2 + (k3 + (k4 + (k5 + j6))))) := by simp only [segment, pair, Codec.bind, Codec.map, maxN, dataC_rd, HE1.out, HE2.out, List.drop_drop, ← Nat.add_assoc, HR1.out, HR2.out, HR3.out, HR4.out, HR5.out, Int.toNat_natCast, hr6]
                  rw [hr6] at h6
                  obtain ⟨rfl, hS6, hsd6⟩ := h6
                  have hst6 : RStep hb mb w5 w6 := by first | exact hsd6 | exact hsd6.ofDrew
                  refine ⟨rfl, ?_⟩
                  unfold RPostV
                  rw [hn]
                  exact ⟨rfl, by simpa only [Nat.add_assoc] using hS6, hT4.trans (hT5.trans hst6)⟩
                | ok v6 =>
                  obtain ⟨s, k6⟩ := v6
                  have hn : segment.rd (bs.drop p) = .ok (⟨x1, x2, x3, x4, s⟩, k1 + (k2 + (k3 + (k4 + (k5 + k6))))) := by simp only [segment, pair, Codec.bind, Codec.map, maxN, dataC_rd, HE1.out, HE2.out, List.drop_drop, ← Nat.add_assoc, HR1.out, HR2.out, HR3.out, HR4.out, HR5.out, Int.toNat_natCast, hr6]
                  have hsl : s.length = m := by
                    simp only [some'] at hr6
                    split at hr6
                    · cases hr6
                    · cases hr6; rw [List.length_take]; omega
                  rw [hr6] at h6
                  obtain ⟨⟨rfl, ao, c, hB6, hown⟩, hS6, hsd6⟩ := h6
                  have hst6 : RStep hb mb w5 w6 := by first | exact hsd6 | exact hsd6.ofDrew
                  have HN : Hid _ := hn
                  have hown6 : w6.ownsRow w.heap.size 5 1 (.slice ao m c) m (s.map B) := by
                    refine ⟨hown.1, hown.2.imp id ?_⟩
                    rintro ⟨g, c', cur, e1, e2, e3⟩
                    exact ⟨g, c', cur, e1, Nat.le_trans (show w.heap.size ≤ w5.heap.size by omega) e2, e3⟩
                  clear hn hr6 hsd6 hown
                  subst hsl
                  unfold tup
                  first | (rename_i hK; refine hK _ _ ?_; refine wpAny_done (by kernel_rfl) ?_ _; clear hK) | go_wp2
                  go_end0
                  unfold RPostV
                  rw [HN.out]
                  exact ⟨⟨rfl, ao, c, by exact hB6, hown6⟩, by simpa only [Nat.add_assoc] using hS6, hT4.trans (hT5.trans hst6)⟩
end Go.Proofs.Ytfgnlfemckdfnaa
