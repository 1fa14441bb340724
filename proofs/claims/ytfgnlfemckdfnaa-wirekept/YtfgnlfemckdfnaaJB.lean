import Derived.Test.YtfgnlfemckdfnaaRGet
import Derived.Test.YtfgnlfemckdfnaaWMeth
namespace Go.Proofs.Ytfgnlfemckdfnaa
open Go.RowKit Go.PlainAid
def Blk (w : World) (mb : Nat) (C : Array Value) (T : TypeId) : Prop := w.heap[mb]? = some (.cells C T (0, 0))
theorem Blk.cell {w : World} {mb : Nat} {C : Array Value} {T : TypeId} (h : Blk w mb C T) (j : Nat) : w.cell? ⟨mb, j, none⟩ = C[j]? := cell_of_row w mb j C T (0, 0) h
theorem Blk.frozen {w : World} {mb : Nat} {C : Array Value} {T : TypeId} (h : Blk w mb C T) (j : Nat) : w.frozen? ⟨mb, j, none⟩ = false := by unfold Blk at h; simp [World.frozen?, h]
theorem Blk.lt {w : World} {mb : Nat} {C : Array Value} {T : TypeId} (h : Blk w mb C T) : mb < w.heap.size := (Array.getElem?_eq_some_iff.1 h).1
theorem Blk.set {w : World} {mb : Nat} {C : Array Value} {T : TypeId} (h : Blk w mb C T) (j : Nat) (v : Value) : Blk (w.setCell ⟨mb, j, none⟩ v) mb (C.setIfInBounds j v) T := by
  unfold Blk at *
  simp [World.setCell, Array.getElem?_modify, h]
theorem Blk.keep {w w' : World} {hb mb : Nat} {C : Array Value} {T : TypeId} (h : Blk w mb C T) (hs : RStep hb hb w w') (hne : mb ≠ hb) : Blk w' mb C T := (hs.block mb h.lt hne hne).trans h
theorem RSt.setM {hb mb : Nat} {b off : Nat} {n cap : Nat} {bs : List UInt8} {p : Nat} {w : World} (h : RSt hb (some ⟨b, off, none⟩) n cap bs p w) (h1 : mb ≠ hb) (h2 : b ≠ mb) (j : Nat) (v : Value) : RSt hb (some ⟨b, off, none⟩) n cap bs p (w.setCell ⟨mb, j, none⟩ v) :=
  h.other (Below.heap_setCell _ _ _ _ (fun e => h1 e.symm)) (fun b' off' e => by cases e; exact Below.heap_setCell _ _ _ _ h2)
def tup : Ending := .returned (.tuple #[])
set_option maxHeartbeats 800000 in
theorem number_r (hb b off n cap : Nat) (bs : List UInt8) (p mb mo lo hi : Nat) (C : Array Value) (T : TypeId) (old : Value) (lo' hi' : Int) (w : World) (hS : RSt hb (some ⟨b, off, none⟩) n cap bs p w)
    (hB : Blk w mb C T) (ho : C[mo]? = some old) (hne : mb ≠ hb) (hne2 : b ≠ mb) (elo : lo' = lo) (ehi : hi' = hi) (hlh : lo ≤ hi) (hh : hi < 2 ^ 63) :
    Calls Try.prog 125 #[.pointer (some ⟨hb, 0, none⟩), .pointer (some ⟨mb, mo, none⟩), .int .i64 lo', .int .i64 hi'] w
      (RPostV hb mb (some ⟨b, off, none⟩) n cap bs p w ((num lo hi).rd (bs.drop p)) fun v e w' => e = tup ∧ Blk w' mb (C.setIfInBounds mo (.int .i64 v)) T) := by
  subst elo ehi
  have c1 := hS.cell1
  have hle := hS.le
  go_enter Try.func125, Try.ntmps125
  go_wp2_with fail
  refine (get_some hb b off n cap bs p _ hS).mono ?_
  intro e w1 h
  unfold RPostV at h
  cases hr : raw.rd (bs.drop p) with
  | error k =>
    rw [hr] at h
    obtain ⟨rfl, hS1, hst1⟩ := h
    refine ⟨rfl, ?_⟩
    unfold RPostV
    have hn : (num lo hi).rd (bs.drop p) = .error k := by simp only [num]; rw [hr]
    rw [hn]
    exact ⟨rfl, hS1, hst1.wide⟩
  | ok v =>
    obtain ⟨u, k⟩ := v
    rw [hr] at h
    obtain ⟨rfl, hS1, hst1⟩ := h
    have hB1 := hB.keep hst1 hne
    have q0 := hB1.cell mo
    rw [ho] at q0
    have q1 := hB1.frozen mo
    by_cases h1 : lo ≤ u ∧ u ≤ hi
    · have hn : (num lo hi).rd (bs.drop p) = .ok ((u : Int), k) := by
        simp only [num]; rw [hr]; simp only; rw [if_pos (by simp; omega)]
      have HN : Hid _ := hn
      obtain ⟨h1, h2⟩ := h1
      clear hn hr hB c1 hS
      go_wp2
      go_end0
      unfold RPostV
      rw [HN.out]
      exact ⟨⟨rfl, hB1.set _ _⟩, hS1.setM hne hne2 _ _, hst1.wide.trans (RStep.setM _ _ _)⟩
    · have hn : (num lo hi).rd (bs.drop p) = .error 0 := by
        simp only [num]; rw [hr]; simp only; rw [if_neg (by simp; omega)]
      have HN : Hid _ := hn
      have hS1' := hS1
      clear hn hr hB c1 hS
      by_cases h2 : u < lo
      · go_wp2_with fail
        refine (giveUp_any hb _ n cap bs (p + k) p _ hS1 hle).mono ?_
        rintro e w2 ⟨rfl, hS2, hst2⟩
        refine ⟨rfl, ?_⟩
        unfold RPostV
        rw [HN.out]
        exact ⟨rfl, hS2, (hst1.trans hst2).wide⟩
      · have h3 : hi < u := by omega
        clear h1
        go_wp2_with fail
        refine (giveUp_any hb _ n cap bs (p + k) p _ hS1 hle).mono ?_
        rintro e w2 ⟨rfl, hS2, hst2⟩
        refine ⟨rfl, ?_⟩
        unfold RPostV
        rw [HN.out]
        exact ⟨rfl, hS2, (hst1.trans hst2).wide⟩
theorem and1 (u : Nat) (h : u < 2 ^ 64) : bits BinOp.and IntKind.u64 (u : Int) 1 = ((u % 2 : Nat) : Int) := by
  have h := (bits_nat IntKind.u64 64 (by decide) (fun n h0 h1 => IntWalk.u64_in n ⟨h0, by omega⟩) u 1 h (by omega)).1
  rw [show (1 : Int) = ((1 : Nat) : Int) from rfl, h, Nat.and_one_is_mod]
theorem xor_unzig (u : Nat) (h : u < 2 ^ 64) : bits BinOp.xor IntKind.i64 ((u : Int) / 2) (wrap64 (-wrap64 (bits BinOp.and IntKind.u64 (u : Int) 1))) = unzig u := by
  rw [and1 u h]
  have e0 : ((u : Int) / 2) = ((u / 2 : Nat) : Int) := by omega
  rw [e0]
  have hx : u / 2 < 2 ^ 64 := by omega
  unfold unzig
  by_cases he : u % 2 = 0
  · rw [if_pos he, he]
    have e1 : wrap64 (-wrap64 ((0 : Nat) : Int)) = 0 := by go_arith
    rw [e1]
    have e : (BitVec.ofInt 64 ((u / 2 : Nat) : Int) ^^^ BitVec.ofInt 64 0).toNat = u / 2 := by
      rw [show BitVec.ofInt 64 0 = 0#64 from rfl, BitVec.xor_zero, BitVec.ofInt_natCast, BitVec.toNat_ofNat, Nat.mod_eq_of_lt hx]
    show IntKind.i64.wrap (((BitVec.ofInt 64 ((u / 2 : Nat) : Int) ^^^ BitVec.ofInt 64 0).toNat : Nat) : Int) = _
    rw [e, IntKind.wrap_i64]
    omega
  · rw [if_neg he, show u % 2 = 1 from by omega]
    have e1 : wrap64 (-wrap64 ((1 : Nat) : Int)) = -1 := by go_arith
    rw [e1]
    have e : (BitVec.ofInt 64 ((u / 2 : Nat) : Int) ^^^ BitVec.ofInt 64 (-1)).toNat = 18446744073709551615 - u / 2 := by
      have h1 : BitVec.ofInt 64 (-1) = BitVec.allOnes 64 := by decide
      rw [h1, BitVec.xor_allOnes, BitVec.toNat_not, BitVec.ofInt_natCast, BitVec.toNat_ofNat, Nat.mod_eq_of_lt hx]
    show IntKind.i64.wrap (((BitVec.ofInt 64 ((u / 2 : Nat) : Int) ^^^ BitVec.ofInt 64 (-1)).toNat : Nat) : Int) = _
    rw [e, IntKind.wrap_i64]
    omega
theorem unfold_any (u : Nat) (w : World) (h : u < 2 ^ 64) : Calls Try.prog 131 #[.int .u64 (u : Nat)] w fun e w' => e = .returned (.int .i64 (unzig u)) ∧ w' = w := by
  have hxz := xor_unzig u h
  have HX : Hid _ := hxz
  clear hxz
  go_enter Try.func131, Try.ntmps131
  go_wp2
  go_ret
  exact ⟨congrArg (fun z => Ending.returned (Value.int .i64 z)) HX.out, rfl⟩
set_option maxHeartbeats 800000 in
theorem signed_r (hb b off n cap : Nat) (bs : List UInt8) (p mb mo : Nat) (C : Array Value) (T : TypeId) (old : Value) (w : World) (hS : RSt hb (some ⟨b, off, none⟩) n cap bs p w)
    (hB : Blk w mb C T) (ho : C[mo]? = some old) (hne : mb ≠ hb) (hne2 : b ≠ mb) :
    Calls Try.prog 126 #[.pointer (some ⟨hb, 0, none⟩), .pointer (some ⟨mb, mo, none⟩)] w
      (RPostV hb mb (some ⟨b, off, none⟩) n cap bs p w (signed.rd (bs.drop p)) fun v e w' => e = tup ∧ Blk w' mb (C.setIfInBounds mo (.int .i64 v)) T) := by
  go_enter Try.func126, Try.ntmps126
  go_wp2_with fail
  refine (get_some hb b off n cap bs p _ hS).mono ?_
  intro e w1 h
  unfold RPostV at h
  cases hr : raw.rd (bs.drop p) with
  | error k =>
    rw [hr] at h
    obtain ⟨rfl, hS1, hst1⟩ := h
    refine ⟨rfl, ?_⟩
    unfold RPostV
    have hn : signed.rd (bs.drop p) = .error k := by simp only [signed]; rw [hr]
    rw [hn]
    exact ⟨rfl, hS1, hst1.wide⟩
  | ok v =>
    obtain ⟨u, k⟩ := v
    rw [hr] at h
    obtain ⟨rfl, hS1, hst1⟩ := h
    have hB1 := hB.keep hst1 hne
    have q0 := hB1.cell mo
    rw [ho] at q0
    have q1 := hB1.frozen mo
    have hn : signed.rd (bs.drop p) = .ok (unzig u, k) := by simp only [signed]; rw [hr]
    have hul := (raw_lt hr).1
    have HN : Hid _ := hn
    clear hn hr hB hS
    go_wp2_with fail
    refine (unfold_any u w1 hul).mono ?_
    rintro e w2 ⟨rfl, hw2⟩
    subst hw2
    go_wp2
    go_end0
    unfold RPostV
    rw [HN.out]
    exact ⟨⟨rfl, hB1.set _ _⟩, hS1.setM hne hne2 _ _, hst1.wide.trans (RStep.setM _ _ _)⟩
end Go.Proofs.Ytfgnlfemckdfnaa
namespace Go.Proofs.Ytfgnlfemckdfnaa
open Go.RowKit Go.PlainAid
theorem from_part {hb b off n cap : Nat} {bs : List UInt8} {p k o : Nat} {w : World} (hS : RSt hb (some ⟨b, off, none⟩) n cap bs (p + k) w) (ho : 0 < k → o = off + p) : From w (some ⟨b, o, none⟩) ((bs.drop p).take k) := by
  intro h0
  have hk : 0 < k := by
    rcases Nat.eq_zero_or_pos k with e | e
    · subst e; simp at h0
    · exact e
  refine ⟨b, o, rfl, fun j u hu => ?_⟩
  rw [List.getElem?_take] at hu
  split at hu
  · rw [List.getElem?_drop] at hu
    have hj := (List.getElem?_eq_some_iff.1 hu).1
    obtain ⟨b', off', e, hc⟩ := hS.src (by omega)
    cases e
    rw [ho hk, Nat.add_assoc]
    exact hc _ _ hu
  · cases hu
set_option maxRecDepth 100000 in
set_option maxHeartbeats 800000 in
theorem text_r (hb b off n cap : Nat) (bs : List UInt8) (p mb mo k : Nat) (C : Array Value) (T : TypeId) (old : Value) (a : List UInt8) (w : World) (hS : RSt hb (some ⟨b, off, none⟩) n cap bs p w)
    (hB : Blk w mb C T) (ho : C[mo]? = some old) (hne : mb ≠ hb) (hne2 : b ≠ mb) (hk : k ≤ 1000000) :
    Calls Try.prog 127 #[.pointer (some ⟨hb, 0, none⟩), .pointer (some ⟨mb, mo, none⟩), .int .i64 (k : Nat), Str a] w
      (RPostV hb mb (some ⟨b, off, none⟩) n cap bs p w ((text a k).rd (bs.drop p)) fun v e w' => e = tup ∧ Blk w' mb (C.setIfInBounds mo (Str v)) T) := by
  have c1 := hS.cell1
  have hle := hS.le
  have hlen := hS.len
  have hdl : (bs.drop p).length = n - p := by rw [List.length_drop, hlen]
  unfold Str
  by_cases hs : n < p + k
  · have hn : (text a k).rd (bs.drop p) = .error (n - p) := by
      simp only [text, Codec.guard, some']; rw [if_pos (by omega), hdl]
    have HN : Hid _ := hn
    clear hn hB
    go_enter Try.func127, Try.ntmps127
    go_wp2_with fail
    refine (take_short hb _ n cap bs p k _ hS hs).mono ?_
    rintro e w1 ⟨rfl, hS1, hst1⟩
    refine ⟨rfl, ?_⟩
    unfold RPostV
    rw [HN.out]
    exact ⟨rfl, by rw [show p + (n - p) = n from by omega]; exact hS1, hst1.wide⟩
  · have hn : (text a k).rd (bs.drop p) = if good a ((bs.drop p).take k) then .ok ((bs.drop p).take k, k) else .error 0 := by
      simp only [text, Codec.guard, some']; rw [if_neg (by omega)]
    have HN : Hid _ := hn
    clear hn
    go_enter Try.func127, Try.ntmps127
    go_wp2_with fail
    refine (take_ok hb b off n cap bs p k _ hS (by omega)).mono ?_
    rintro e w1 ⟨⟨o, rfl, hoo⟩, hS1, hst1⟩
    have hcv := conv_run w1 (some ⟨b, o, none⟩) k (cap - p) ((bs.drop p).take k) (by rw [List.length_take]; omega) (from_part hS1 hoo)
    have hsl : ((bs.drop p).take k).length ≤ 1000000 := by rw [List.length_take]; omega
    have hB1 := hB.keep hst1 hne
    have q0 := hB1.cell mo
    rw [ho] at q0
    have q1 := hB1.frozen mo
    clear hB c1
    generalize (bs.drop p).take k = s at *
    have hB2 := hB1.set mo (Str s)
    have hS2 := hS1.setM hne hne2 mo (Str s)
    have hT2 : RStep hb mb w (w1.setCell ⟨mb, mo, none⟩ (Str s)) := hst1.wide.trans (RStep.setM _ _ _)
    have hcs : (w1.setCell ⟨mb, mo, none⟩ (Str s)).cell? ⟨mb, mo, none⟩ = some (Str s) := by
      rw [hB2.cell]
      have := (Array.getElem?_eq_some_iff.1 ho).1
      simp [this]
    unfold Str at hB2 hS2 hT2 hcs
    go_wp2_with fail
    generalize w1.setCell ⟨mb, mo, none⟩ (.string ⟨s.toArray⟩) = w2 at *
    refine (goodName_any s a w2 (by omega)).mono ?_
    rintro e wz ⟨rfl, hwz⟩
    subst wz
    clear hcv
    by_cases hg : good a s = true
    · rw [if_pos hg] at HN
      rw [hg]
      go_wp2
      go_end0
      unfold RPostV
      rw [HN.out]
      exact ⟨⟨rfl, hB2⟩, hS2, hT2⟩
    · rw [if_neg hg] at HN
      rw [show good a s = false from by simpa using hg]
      go_wp2_with fail
      refine (giveUp_any hb _ n cap bs (p + k) p _ hS2 hle).mono ?_
      rintro e w3 ⟨rfl, hS3, hst3⟩
      refine ⟨rfl, ?_⟩
      unfold RPostV
      rw [HN.out]
      exact ⟨rfl, hS3, hT2.trans hst3.wide⟩
theorem From.alloc {w : World} {ao : Option Addr} {bs : List UInt8} (h : From w ao bs) (o : Obj) : From (w.alloc o) ao bs := by
  intro h0
  obtain ⟨b, off, rfl, hc⟩ := h h0
  refine ⟨b, off, rfl, fun j u hu => ?_⟩
  have h1 := hc j u hu
  exact (World.cell?_of_block (w := w) (Below.heap_alloc _ _ _ (World.block_lt_of_cell? w _ h1))).trans h1
set_option maxRecDepth 100000 in
set_option maxHeartbeats 800000 in
theorem clone_any (b o k c : Nat) (s : List UInt8) (w : World) (hl : s.length = k) (hk : k ≤ 1000000) (hf : From w (some ⟨b, o, none⟩) s) :
    Calls Try.prog 128 #[.slice (some ⟨b, o, none⟩) k c] w fun e w' => ∃ ao cap, e = .returned (.slice ao k cap) ∧ w'.ownsRow w.heap.size 5 1 (.slice ao k cap) k (s.map B) ∧ Below w.heap.size w w' := by
  have q22 : ∀ (w : World) (a : Option Addr) (n c n' c' : Nat), (binOp .eql 22 (.slice a n c) (.slice none n' c')).run Try.prog w = .ok (.bool a.isNone) w := fun w a n c n' c' => Lib.run_eql_slice_nil w _ _ a n c n' c' Try.underlying22
  have hf1 : From (w.alloc (.cells #[] 5)) (some ⟨b, o, none⟩) s := hf.alloc _
  go_enter Try.func128, Try.ntmps128
  go_wp2_with (first
    | (at_builtin; go_must (refine wpList_append_bytes rfl _ _ rfl w.heap.size 0 _ [] rfl (World.ownsRow_made w #[] 0 (Nat.le_refl _) (Nat.zero_le _) rfl) (some ⟨b, o, none⟩) k c s rfl hl (by intro h; cases h) hf1 (by omega) (by simp) ?_))
    | fail)
  intro v' w1 hown hgr
  replace hown : w1.ownsRow w.heap.size 5 1 v' k (s.map B) := by simpa using hown
  obtain ⟨ao, cap, rfl, _, _, _, _⟩ := own_from hown
  have hbl : Below w.heap.size w w1 := ((Below.refl _ w).alloc (Nat.le_refl _) _).grown hgr (by simp) (by intro k hk; simp [Value.ownBlock] at hk; omega)
  clear hgr
  go_wp2
  go_ret
  exact ⟨ao, cap, rfl, hown, hbl⟩
theorem Blk.below {w w' : World} {B mb : Nat} {C : Array Value} {T : TypeId} (h : Blk w mb C T) (hb : Below B w w') (hlt : mb < B) : Blk w' mb C T := (hb.block mb hlt).trans h
set_option maxRecDepth 100000 in
set_option maxHeartbeats 800000 in
theorem data_r (hb b off n cap : Nat) (bs : List UInt8) (p mb mo k : Nat) (C : Array Value) (T : TypeId) (old : Value) (w : World) (hS : RSt hb (some ⟨b, off, none⟩) n cap bs p w)
    (hB : Blk w mb C T) (ho : C[mo]? = some old) (hne : mb ≠ hb) (hne2 : b ≠ mb) (hbw : b < w.heap.size) (hk : k ≤ 1000000) :
    Calls Try.prog 123 #[.pointer (some ⟨hb, 0, none⟩), .pointer (some ⟨mb, mo, none⟩), .int .i64 (k : Nat)] w
      (RPostV hb mb (some ⟨b, off, none⟩) n cap bs p w ((some' k).rd (bs.drop p)) fun v e w' => e = tup ∧ ∃ ao c, Blk w' mb (C.setIfInBounds mo (.slice ao k c)) T ∧ w'.ownsRow w.heap.size 5 1 (.slice ao k c) k (v.map B)) := by
  have hle := hS.le
  have hlen := hS.len
  have hdl : (bs.drop p).length = n - p := by rw [List.length_drop, hlen]
  by_cases hs : n < p + k
  · have hn : (some' k).rd (bs.drop p) = .error (n - p) := by
      simp only [some']; rw [if_pos (by omega), hdl]
    have HN : Hid _ := hn
    clear hn hB
    go_enter Try.func123, Try.ntmps123
    go_wp2_with fail
    refine (take_short hb _ n cap bs p k _ hS hs).mono ?_
    rintro e w1 ⟨rfl, hS1, hst1⟩
    refine ⟨rfl, ?_⟩
    unfold RPostV
    rw [HN.out]
    exact ⟨rfl, by rw [show p + (n - p) = n from by omega]; exact hS1, hst1.wide⟩
  · have hn : (some' k).rd (bs.drop p) = .ok ((bs.drop p).take k, k) := by
      simp only [some']; rw [if_neg (by omega)]
    have HN : Hid _ := hn
    clear hn
    go_enter Try.func123, Try.ntmps123
    go_wp2_with fail
    refine (take_ok hb b off n cap bs p k _ hS (by omega)).mono ?_
    rintro e w1 ⟨⟨o, rfl, hoo⟩, hS1, hst1⟩
    have hB1 := hB.keep hst1 hne
    have hlt := hS1.lt
    have hsz := hst1.size
    go_wp2_with fail
    refine (clone_any b o k (cap - p) ((bs.drop p).take k) w1 (by rw [List.length_take]; omega) hk (from_part hS1 hoo)).mono ?_
    rintro e w2 ⟨ao, c, rfl, hown, hbl⟩
    have hB2 := hB1.below hbl hB1.lt
    have hS2 : RSt hb (some ⟨b, off, none⟩) n cap bs (p + k) w2 := hS1.other (hbl.block _ hlt) (fun b' off' e => by cases e; exact hbl.block _ (by omega))
    have hT2 : RStep hb mb w w2 := hst1.wide.trans ⟨hbl.os, hbl.tape, hbl.output, hbl.size, fun k hk _ _ => hbl.block k hk⟩
    have hown2 : (w2.setCell ⟨mb, mo, none⟩ (.slice ao k c)).ownsRow w.heap.size 5 1 (.slice ao k c) k (((bs.drop p).take k).map B) := by
      have h1 := ownsRow_setCell_below hown (show (⟨mb, mo, none⟩ : Addr).block < w1.heap.size from hB1.lt) (.slice ao k c)
      refine ⟨h1.1, h1.2.imp id ?_⟩
      rintro ⟨g, c', cur, e1, e2, e3⟩
      exact ⟨g, c', cur, e1, by omega, e3⟩
    have q0 := hB2.cell mo
    rw [ho] at q0
    have q1 := hB2.frozen mo
    clear hB hB1 hown hbl
    go_wp2
    go_end0
    unfold RPostV
    rw [HN.out]
    exact ⟨⟨rfl, ao, c, hB2.set _ _, hown2⟩, hS2.setM hne hne2 _ _, hT2.trans (RStep.setM _ _ _)⟩
end Go.Proofs.Ytfgnlfemckdfnaa
namespace Go.Proofs.Ytfgnlfemckdfnaa
open Go.RowKit Go.PlainAid
def RH (hb : Nat) : Value := .iface 118 (.pointer (some ⟨hb, 0, none⟩))
theorem get_ne (C : Array Value) (i j : Nat) (v : Value) (h : i ≠ j) : (C.setIfInBounds i v)[j]? = C[j]? := by
  rw [Array.getElem?_setIfInBounds, if_neg h]
theorem get_eq (C : Array Value) (i : Nat) (v x : Value) (h : C[i]? = some x) : (C.setIfInBounds i v)[i]? = some v := by
  have := (Array.getElem?_eq_some_iff.1 h).1
  simp [this]
theorem RStep.fresh {hb mb lb : Nat} {w w1 : World} {o : Obj} (h : RStep hb lb (w.alloc o) w1) (hl : lb = w.heap.size) : RStep hb mb w w1 :=
  ⟨h.os, h.tape, h.output, Nat.le_trans (by simp) h.size, fun k hk h1 _ => (h.block k (by simp; omega) h1 (by omega)).trans (Below.heap_alloc _ _ _ hk)⟩
theorem RSt.alloc {hb b off n cap : Nat} {bs : List UInt8} {p : Nat} {w : World} (h : RSt hb (some ⟨b, off, none⟩) n cap bs p w) (hbw : b < w.heap.size) (o : Obj) : RSt hb (some ⟨b, off, none⟩) n cap bs p (w.alloc o) :=
  h.other (Below.heap_alloc _ _ _ h.lt) (fun b' off' e => by cases e; exact Below.heap_alloc _ _ _ hbw)
theorem name_rd (a l : List UInt8) : (name a).rd l = match (num 1 16).rd l with
    | .error k => .error k
    | .ok (n, k) => match (text a n.toNat).rd (l.drop k) with
      | .error j => .error (k + j)
      | .ok (s, j) => .ok (s, k + j) := by
  simp only [name, Codec.map, Codec.bind]
  cases (num 1 16).rd l with
  | error k => rfl
  | ok v =>
    obtain ⟨n, k⟩ := v
    simp only
    cases (text a n.toNat).rd (l.drop k) with
    | error j => rfl
    | ok v => rfl
theorem num_ok {lo hi : Nat} {l : List UInt8} {v : Int} {k : Nat} (h : (num lo hi).rd l = .ok (v, k)) : (lo : Int) ≤ v ∧ v ≤ (hi : Int) := by
  simp only [num] at h
  split at h
  · cases h
  · split at h
    · rename_i hx
      simp only [Bool.and_eq_true, decide_eq_true_eq] at hx
      cases h
      omega
    · cases h
set_option maxRecDepth 100000 in
set_option maxHeartbeats 800000 in
theorem name_r (hb b off n cap : Nat) (bs : List UInt8) (p mb mo : Nat) (C : Array Value) (T : TypeId) (s0 a : List UInt8) (w : World) (hS : RSt hb (some ⟨b, off, none⟩) n cap bs p w)
    (hB : Blk w mb C T) (ho : C[mo]? = some (Str s0)) (hne : mb ≠ hb) (hne2 : b ≠ mb) (hbw : b < w.heap.size) :
    Calls Try.prog 72 #[RH hb, .pointer (some ⟨mb, mo, none⟩), Str a] w
      (RPostV hb mb (some ⟨b, off, none⟩) n cap bs p w ((name a).rd (bs.drop p)) fun v e w' => e = tup ∧ Blk w' mb (C.setIfInBounds mo (Str v)) T) := by
  have hx := hB.cell mo
  rw [ho] at hx
  have hlt := hS.lt
  have hml := hB.lt
  unfold RH
  unfold Str at hx
  unfold Str
  have hnew : Blk (w.alloc (.cells #[.int .i64 (s0.length : Int)] 3)) w.heap.size #[.int .i64 (s0.length : Int)] 3 := heap_alloc_new w _
  go_enter Try.func72, Try.ntmps72
  go_wp2_with fail
  refine (number_r hb b off n cap bs p w.heap.size 0 1 16 _ 3 _ 1 16 _ (hS.alloc hbw _) hnew rfl (by omega) (by omega) rfl rfl (by decide) (by decide)).mono ?_
  intro e w1 h
  unfold RPostV at h
  cases hr : (num 1 16).rd (bs.drop p) with
  | error k =>
    have hn : (name a).rd (bs.drop p) = .error k := by rw [name_rd, hr]
    rw [hr] at h
    obtain ⟨rfl, hS1, hst1⟩ := h
    refine ⟨rfl, ?_⟩
    unfold RPostV
    rw [hn]
    exact ⟨rfl, hS1, hst1.fresh rfl⟩
  | ok v =>
    obtain ⟨x, k⟩ := v
    have hxr := num_ok hr
    have hn : (name a).rd (bs.drop p) = match (text a x.toNat).rd (bs.drop (p + k)) with
      | .error j => .error (k + j)
      | .ok (s, j) => .ok (s, k + j) := by rw [name_rd, hr]; simp only [List.drop_drop]
    rw [hr] at h
    obtain ⟨⟨rfl, hB1⟩, hS1, hst1⟩ := h
    have c1 := hB1.cell 0
    have hT1 : RStep hb mb w w1 := hst1.fresh rfl
    have hBm : Blk w1 mb C T := (hst1.block mb (by simp; omega) (by omega) (by omega)).trans ((Below.heap_alloc _ _ _ hml).trans hB)
    have hsz := hT1.size
    obtain ⟨m, rfl⟩ : ∃ m : Nat, x = m := ⟨x.toNat, by omega⟩
    rw [Int.toNat_natCast] at hn
    simp only [List.setIfInBounds_toArray, List.set_cons_zero, List.getElem?_toArray, List.getElem?_cons_zero] at c1
    have HN : Hid _ := hn
    clear hn hr hst1 hnew hB1 hx
    generalize w.heap.size = kk at *
    have hu : tup = .returned (.tuple #[]) := rfl
    rw [hu]
    go_wp2_with fail
    refine (text_r hb b off n cap bs (p + k) mb mo m C T _ a w1 hS1 hBm ho hne hne2 (by omega)).mono ?_
    intro e w2 h2
    unfold RPostV at h2
    cases hr2 : (text a m).rd (bs.drop (p + k)) with
    | error j =>
      rw [hr2] at h2
      obtain ⟨rfl, hS2, hst2⟩ := h2
      refine ⟨rfl, ?_⟩
      unfold RPostV
      rw [HN.out, hr2]
      exact ⟨rfl, by rw [← Nat.add_assoc]; exact hS2, hT1.trans hst2⟩
    | ok v =>
      obtain ⟨s, j⟩ := v
      rw [hr2] at h2
      obtain ⟨⟨rfl, hB2⟩, hS2, hst2⟩ := h2
      rw [hu]
      go_wp2
      go_end0
      unfold RPostV
      rw [HN.out, hr2]
      exact ⟨⟨rfl, hB2⟩, by rw [← Nat.add_assoc]; exact hS2, hT1.trans hst2⟩
end Go.Proofs.Ytfgnlfemckdfnaa
