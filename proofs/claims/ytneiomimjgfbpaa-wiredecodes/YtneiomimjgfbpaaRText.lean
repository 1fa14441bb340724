import Derived.Test.YtneiomimjgfbpaaRNum
import Derived.Test.YtneiomimjgfbpaaWMeth
namespace Go.Proofs.Ytneiomimjgfbpaa
open Go.RowKit Go.PlainAid

/-- The bytes that lie from a place on. -/
theorem from_part {hb b off n cap : Nat} {bs : List UInt8} {p k o : Nat} {w : World} (hS : RSt hb (some ⟨b, off, none⟩) n cap bs (p + k) w) (ho : 0 < k → o = off + p) : From w (some ⟨b, o, none⟩) ((bs.drop p).take k) := by
  intro h0
  have hk : 0 < k := by
    rcases Nat.eq_zero_or_pos k with e | e
    · subst e; simp at h0
    · exact e
  refine ⟨b, o, rfl, fun j u hu => ?_⟩
  rw [List.getElem?_take] at hu
  split at hu
  · rw [List.getElem?_drop] at hu
    have hj := (List.getElem?_eq_some_iff.1 hu).1
    obtain ⟨b', off', e, hc⟩ := hS.src (by omega)
    cases e
    rw [ho hk, Nat.add_assoc]
    exact hc _ _ hu
  · cases hu

set_option maxRecDepth 100000 in
set_option maxHeartbeats 800000 in
theorem text_r (hb b off n cap : Nat) (bs : List UInt8) (p mb mo k : Nat) (C : Array Value) (T : TypeId) (old : Value) (a : List UInt8) (w : World) (hS : RSt hb (some ⟨b, off, none⟩) n cap bs p w)
    (hB : Blk w mb C T) (ho : C[mo]? = some old) (hne : mb ≠ hb) (hne2 : b ≠ mb) (hk : k ≤ 1000000) :
    Calls Try.prog 124 #[.pointer (some ⟨hb, 0, none⟩), .pointer (some ⟨mb, mo, none⟩), .int .i64 (k : Nat), Str a] w
      (RPostV hb mb (some ⟨b, off, none⟩) n cap bs p w ((text a k).rd (bs.drop p)) fun v e w' => e = tup ∧ Blk w' mb (C.setIfInBounds mo (Str v)) T) := by
  have c1 := hS.cell1
  have hle := hS.le
  have hlen := hS.len
  have hdl : (bs.drop p).length = n - p := by rw [List.length_drop, hlen]
  unfold Str
  by_cases hs : n < p + k
  · have hn : (text a k).rd (bs.drop p) = .error (n - p) := by
      simp only [text, Codec.guard, some']; rw [if_pos (by omega), hdl]
    have HN : Hid _ := hn
    clear hn hB
    go_enter Try.func124, Try.ntmps124
    go_wp2_with fail
    refine (take_short hb _ n cap bs p k _ hS hs).mono ?_
    rintro e w1 ⟨rfl, hS1, hst1⟩
    refine ⟨rfl, ?_⟩
    unfold RPostV
    rw [HN.out]
    exact ⟨rfl, by rw [show p + (n - p) = n from by omega]; exact hS1, hst1.wide⟩
  · have hn : (text a k).rd (bs.drop p) = if good a ((bs.drop p).take k) then .ok ((bs.drop p).take k, k) else .error 0 := by
      simp only [text, Codec.guard, some']; rw [if_neg (by omega)]
    have HN : Hid _ := hn
    clear hn
    go_enter Try.func124, Try.ntmps124
    go_wp2_with fail
    refine (take_ok hb b off n cap bs p k _ hS (by omega)).mono ?_
    rintro e w1 ⟨⟨o, rfl, hoo⟩, hS1, hst1⟩
    have hcv := conv_run w1 (some ⟨b, o, none⟩) k (cap - p) ((bs.drop p).take k) (by rw [List.length_take]; omega) (from_part hS1 hoo)
    have hsl : ((bs.drop p).take k).length ≤ 1000000 := by rw [List.length_take]; omega
    have hB1 := hB.keep hst1 hne
    have q0 := hB1.cell mo
    rw [ho] at q0
    have q1 := hB1.frozen mo
    clear hB c1
    generalize (bs.drop p).take k = s at *
    have hB2 := hB1.set mo (Str s)
    have hS2 := hS1.setM hne hne2 mo (Str s)
    have hT2 : RStep hb mb w (w1.setCell ⟨mb, mo, none⟩ (Str s)) := hst1.wide.trans (RStep.setM _ _ _)
    have hcs : (w1.setCell ⟨mb, mo, none⟩ (Str s)).cell? ⟨mb, mo, none⟩ = some (Str s) := by
      rw [hB2.cell]
      have := (Array.getElem?_eq_some_iff.1 ho).1
      simp [this]
    unfold Str at hB2 hS2 hT2 hcs
    go_wp2_with fail
    generalize w1.setCell ⟨mb, mo, none⟩ (.string ⟨s.toArray⟩) = w2 at *
    refine (goodName_any s a w2 (by omega)).mono ?_
    rintro e wz ⟨rfl, hwz⟩
    subst wz
    clear hcv
    by_cases hg : good a s = true
    · rw [if_pos hg] at HN
      rw [hg]
      go_wp2
      go_end0
      unfold RPostV
      rw [HN.out]
      exact ⟨⟨rfl, hB2⟩, hS2, hT2⟩
    · rw [if_neg hg] at HN
      rw [show good a s = false from by simpa using hg]
      go_wp2_with fail
      refine (giveUp_any hb _ n cap bs (p + k) p _ hS2 hle).mono ?_
      rintro e w3 ⟨rfl, hS3, hst3⟩
      refine ⟨rfl, ?_⟩
      unfold RPostV
      rw [HN.out]
      exact ⟨rfl, hS3, hT2.trans hst3.wide⟩

theorem From.alloc {w : World} {ao : Option Addr} {bs : List UInt8} (h : From w ao bs) (o : Obj) : From (w.alloc o) ao bs := by
  intro h0
  obtain ⟨b, off, rfl, hc⟩ := h h0
  refine ⟨b, off, rfl, fun j u hu => ?_⟩
  have h1 := hc j u hu
  exact (World.cell?_of_block (w := w) (Below.heap_alloc _ _ _ (World.block_lt_of_cell? w _ h1))).trans h1

set_option maxRecDepth 100000 in
set_option maxHeartbeats 800000 in
theorem clone_any (b o k c : Nat) (s : List UInt8) (w : World) (hl : s.length = k) (hk : k ≤ 1000000) (hf : From w (some ⟨b, o, none⟩) s) :
    Calls Try.prog 125 #[.slice (some ⟨b, o, none⟩) k c] w fun e w' => ∃ ao cap, e = .returned (.slice ao k cap) ∧ w'.ownsRow w.heap.size 5 1 (.slice ao k cap) k (s.map B) ∧ Below w.heap.size w w' := by
  have q22 : ∀ (w : World) (a : Option Addr) (n c n' c' : Nat), (binOp .eql 22 (.slice a n c) (.slice none n' c')).run Try.prog w = .ok (.bool a.isNone) w := fun w a n c n' c' => Lib.run_eql_slice_nil w _ _ a n c n' c' Try.underlying22
  have hf1 : From (w.alloc (.cells #[] 5)) (some ⟨b, o, none⟩) s := hf.alloc _
  go_enter Try.func125, Try.ntmps125
  go_wp2_with (first
    | (at_builtin; go_must (refine wpList_append_bytes rfl _ _ rfl w.heap.size 0 _ [] rfl (World.ownsRow_made w #[] 0 (Nat.le_refl _) (Nat.zero_le _) rfl) (some ⟨b, o, none⟩) k c s rfl hl (by intro h; cases h) hf1 (by omega) (by simp) ?_))
    | fail)
  intro v' w1 hown hgr
  replace hown : w1.ownsRow w.heap.size 5 1 v' k (s.map B) := by simpa using hown
  obtain ⟨ao, cap, rfl, _, _, _, _⟩ := own_from hown
  have hbl : Below w.heap.size w w1 := ((Below.refl _ w).alloc (Nat.le_refl _) _).grown hgr (by simp) (by intro k hk; simp [Value.ownBlock] at hk; omega)
  clear hgr
  go_wp2
  go_ret
  exact ⟨ao, cap, rfl, hown, hbl⟩

theorem Blk.below {w w' : World} {B mb : Nat} {C : Array Value} {T : TypeId} (h : Blk w mb C T) (hb : Below B w w') (hlt : mb < B) : Blk w' mb C T := (hb.block mb hlt).trans h

set_option maxRecDepth 100000 in
set_option maxHeartbeats 800000 in
theorem data_r (hb b off n cap : Nat) (bs : List UInt8) (p mb mo k : Nat) (C : Array Value) (T : TypeId) (old : Value) (w : World) (hS : RSt hb (some ⟨b, off, none⟩) n cap bs p w)
    (hB : Blk w mb C T) (ho : C[mo]? = some old) (hne : mb ≠ hb) (hne2 : b ≠ mb) (hbw : b < w.heap.size) (hk : k ≤ 1000000) :
    Calls Try.prog 120 #[.pointer (some ⟨hb, 0, none⟩), .pointer (some ⟨mb, mo, none⟩), .int .i64 (k : Nat)] w
      (RPostV hb mb (some ⟨b, off, none⟩) n cap bs p w ((some' k).rd (bs.drop p)) fun v e w' => e = tup ∧ ∃ ao c, Blk w' mb (C.setIfInBounds mo (.slice ao k c)) T ∧ w'.ownsRow w.heap.size 5 1 (.slice ao k c) k (v.map B)) := by
  have hle := hS.le
  have hlen := hS.len
  have hdl : (bs.drop p).length = n - p := by rw [List.length_drop, hlen]
  by_cases hs : n < p + k
  · have hn : (some' k).rd (bs.drop p) = .error (n - p) := by
      simp only [some']; rw [if_pos (by omega), hdl]
    have HN : Hid _ := hn
    clear hn hB
    go_enter Try.func120, Try.ntmps120
    go_wp2_with fail
    refine (take_short hb _ n cap bs p k _ hS hs).mono ?_
    rintro e w1 ⟨rfl, hS1, hst1⟩
    refine ⟨rfl, ?_⟩
    unfold RPostV
    rw [HN.out]
    exact ⟨rfl, by rw [show p + (n - p) = n from by omega]; exact hS1, hst1.wide⟩
  · have hn : (some' k).rd (bs.drop p) = .ok ((bs.drop p).take k, k) := by
      simp only [some']; rw [if_neg (by omega)]
    have HN : Hid _ := hn
    clear hn
    go_enter Try.func120, Try.ntmps120
    go_wp2_with fail
    refine (take_ok hb b off n cap bs p k _ hS (by omega)).mono ?_
    rintro e w1 ⟨⟨o, rfl, hoo⟩, hS1, hst1⟩
    have hB1 := hB.keep hst1 hne
    have hlt := hS1.lt
    have hsz := hst1.size
    go_wp2_with fail
    refine (clone_any b o k (cap - p) ((bs.drop p).take k) w1 (by rw [List.length_take]; omega) hk (from_part hS1 hoo)).mono ?_
    rintro e w2 ⟨ao, c, rfl, hown, hbl⟩
    have hB2 := hB1.below hbl hB1.lt
    have hS2 : RSt hb (some ⟨b, off, none⟩) n cap bs (p + k) w2 := hS1.other (hbl.block _ hlt) (fun b' off' e => by cases e; exact hbl.block _ (by omega))
    have hT2 : RStep hb mb w w2 := hst1.wide.trans ⟨hbl.os, hbl.tape, hbl.output, hbl.size, fun k hk _ _ => hbl.block k hk⟩
    have hown2 : (w2.setCell ⟨mb, mo, none⟩ (.slice ao k c)).ownsRow w.heap.size 5 1 (.slice ao k c) k (((bs.drop p).take k).map B) := by
      have h1 := ownsRow_setCell_below hown (show (⟨mb, mo, none⟩ : Addr).block < w1.heap.size from hB1.lt) (.slice ao k c)
      refine ⟨h1.1, h1.2.imp id ?_⟩
      rintro ⟨g, c', cur, e1, e2, e3⟩
      exact ⟨g, c', cur, e1, by omega, e3⟩
    have q0 := hB2.cell mo
    rw [ho] at q0
    have q1 := hB2.frozen mo
    clear hB hB1 hown hbl
    go_wp2
    go_end0
    unfold RPostV
    rw [HN.out]
    exact ⟨⟨rfl, ao, c, hB2.set _ _, hown2⟩, hS2.setM hne hne2 _ _, hT2.trans (RStep.setM _ _ _)⟩
end Go.Proofs.Ytneiomimjgfbpaa
