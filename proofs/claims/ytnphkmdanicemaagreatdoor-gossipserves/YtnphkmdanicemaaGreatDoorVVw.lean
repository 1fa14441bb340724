import Derived.Test.YtnphkmdanicemaaGreatDoorVDg
namespace Go.Proofs.YtnphkmdanicemaaGreatDoor
open Go.RowKit Go.PlainAid Go.MapKept
set_option linter.unusedVariables false
set_option linter.unusedSimpArgs false
def rngLeft (w : World) (mb r : Nat) : Nat :=
  match w.heap[mb]?, w.heap[r]? with
  | some (.map es _), some (.mapIter _ _ seen _) => (leftOf es seen).size
  | _, _ => 0
theorem Rng.left {w : World} {mb r : Nat} {L D T : List Ent} (h : Rng w mb r L D T) : rngLeft w mb r = T.length := by
  obtain ⟨es, c, s, sn, c0, hb, hs, he, hr, hold, hsc, hsk, hl, hp⟩ := h
  simp only [rngLeft, hb, hr]
  simpa using congrArg List.length hl
theorem Rng.next2 {w : World} {mb r : Nat} {L D T : List Ent} (h : Rng w mb r L D T) :
    (T = [] ∧ ∀ ty, (Instr.next (.pointer (some ⟨r, 0, none⟩)) false ty).run Tryz.prog w = .ok (.tuple #[.bool false]) w) ∨
    ∃ x T' w', (∀ ty, (Instr.next (.pointer (some ⟨r, 0, none⟩)) false ty).run Tryz.prog w = .ok (.tuple #[.bool true, keyV x.r x.n, viewV x]) w') ∧ (Instr.entry (.pointer (some ⟨r, 0, none⟩))).run Tryz.prog w' = .ok (.tuple #[keyV x.r x.n, viewV x]) w' ∧
      Rng w' mb r L (D ++ [x]) T' ∧ T'.length < T.length ∧ Chg (fun k => k = r) w w' ∧ w'.heap.size = w.heap.size := by
  rcases h.next 0 with ⟨h1, h2⟩ | ⟨x, T', w', h1, h2⟩
  · exact Or.inl ⟨h1, fun ty => h2⟩
  · exact Or.inr ⟨x, T', w', fun ty => h1, h2⟩
/-- Views in memory: whose, of how many replicas, and all that was said last. -/
structure Vw (hb mb : Nat) (me n : Int) (L : List Ent) (w : World) : Prop where
  blk : Blk w hb #[.int .i64 me, .int .i64 n, .map (some mb)] 98
  map : HMap w mb L
section
variable {hb mb : Nat} {me n : Int} {L L' : List Ent} {w w' : World}
theorem Vw.c0 (h : Vw hb mb me n L w) : w.cell? ⟨hb, 0, none⟩ = some (.int .i64 me) := h.blk.cell 0
theorem Vw.c1 (h : Vw hb mb me n L w) : w.cell? ⟨hb, 1, none⟩ = some (.int .i64 n) := h.blk.cell 1
theorem Vw.c2 (h : Vw hb mb me n L w) : w.cell? ⟨hb, 2, none⟩ = some (.map (some mb)) := h.blk.cell 2
theorem Vw.ne (h : Vw hb mb me n L w) : hb ≠ mb := h.map.ne_b h.blk
theorem Vw.keep (h : Vw hb mb me n L w) {A : Nat → Prop} (hc : Chg A w w') (h1 : ¬ A hb) (h2 : ¬ A mb) : Vw hb mb me n L w' := ⟨hc.blk h.blk h1, h.map.same (hc.block mb h.map.lt h2)⟩
theorem Vw.more (h : Vw hb mb me n L w) (hb2 : Below w.heap.size w w') : Vw hb mb me n L w' := h.keep (Chg.ofBelow (fun _ => False) hb2) (fun e => e) (fun e => e)
theorem Vw.put (h : Vw hb mb me n L w) (hc : Chg (fun k => k = mb) w w') (hm : HMap w' mb L') : Vw hb mb me n L' w' := ⟨hc.blk h.blk h.ne, hm⟩
end
def cntR (r : Int) (L : List Ent) : Nat := L.countP fun e => e.r == r
theorem cntR_le (r : Int) (L : List Ent) : cntR r L ≤ L.length := List.countP_le_length
theorem cntR_perm {r : Int} {a b : List Ent} (h : a.Perm b) : cntR r a = cntR r b := h.countP_eq _
structure CntR (mb it : Nat) (r : Int) (L : List Ent) (w wr : World) (D T : List Ent) (acc : Int) : Prop where
  rng : Rng wr mb it L D T
  bel : Below w.heap.size w wr
  sum : acc = (cntR r D : Nat)
def CntE (mb it : Nat) (r : Int) (L : List Ent) (w wr : World) (acc : Int) : Prop := ∃ D T, CntR mb it r L w wr D T acc
theorem below_next {w wr w2 : World} {r : Nat} {o : Obj} (h : Below w.heap.size w wr) (hlo : w.heap.size ≤ r) (hc : Chg (fun k => k = r) wr w2) : Below w.heap.size w w2 := h.trans (hc.below h.size (fun k e => by rw [e]; exact hlo))
set_option maxRecDepth 100000 in
set_option maxHeartbeats 1600000 in
theorem spoken_any {hb mb : Nat} {me n : Int} {L : List Ent} (r : Int) (w : World) (hV : Vw hb mb me n L w) (hL : L.length ≤ 100000) :
    Calls Tryz.prog 48 #[.pointer (some ⟨hb, 0, none⟩), .int .i64 r] w fun e w' => e = .returned (.int .i64 (cntR r L : Nat)) ∧ Below w.heap.size w w' := by
  have c2 := hV.c2
  obtain ⟨w1, hrg, hR, hb1, hs1⟩ := hV.map.range
  have hlt : mb < w.heap.size := hV.map.lt
  have hbd : ∀ D T : List Ent, (D ++ T).Perm L → cntR r D ≤ 100000 := fun D T hp => by
    have h1 := cntR_le r D
    have h2 := hp.length_eq
    simp at h2
    omega
  have H0 : Hid _ := (⟨hR, hb1, rfl⟩ : CntR mb w.heap.size r L w w1 [] L 0)
  have HBD : Hid _ := hbd
  have HLT : Hid _ := hlt
  clear hR hb1 hbd hV hlt hs1
  go_enter Tryz.func48, Tryz.ntmps48
  go_wp2
  go_loopw [5, 6] (fun i _ wr => ∃ acc, i = .int .i64 acc ∧ CntE mb w.heap.size r L w wr acc) (fun _ _ wr => rngLeft wr mb w.heap.size)
  case atStart => exact ⟨0, rfl, [], L, H0.out⟩
  case round =>
    obtain ⟨acc, rfl, D, T, hE⟩ := hrel
    have hacc := hE.sum
    rcases hE.rng.next2 with ⟨hT, hn⟩ | ⟨x, T', w2, hn, hen, hr2, hlt2, hst2, hsz2⟩
    · have hfin : acc = (cntR r L : Nat) := by
        have := hE.rng.perm
        rw [hT, List.append_nil] at this
        rw [hacc, cntR_perm this]
      have HF : Hid _ := hE.bel
      clear hE hT hacc
      subst hfin
      go_wp2
      go_ret
      exact ⟨rfl, HF.out⟩
    · have hlf := hE.rng.left
      have hbd2 := HBD.out _ _ hr2.perm
      have hgz : Below w2.heap.size w2 (w2.alloc (.cells #[.int .i64 x.r, .string ⟨x.n.toArray⟩] 109)) := (Below.refl _ _).alloc (Nat.le_refl _) _
      have hr3 : Rng (w2.alloc (.cells #[.int .i64 x.r, .string ⟨x.n.toArray⟩] 109)) mb w.heap.size L (D ++ [x]) T' := hr2.same (hgz.block _ hr2.map.lt) (hgz.block _ hr2.lt)
      have hb3 : Below w.heap.size w (w2.alloc (.cells #[.int .i64 x.r, .string ⟨x.n.toArray⟩] 109)) := by
        have b2 : Below w.heap.size w w2 := hE.bel.trans (hst2.below hE.bel.size (fun k e => by rw [e]; exact Nat.le_refl _))
        exact b2.trans (hgz.mono b2.size)
      have HLF : Hid _ := (show rngLeft (w2.alloc (.cells #[.int .i64 x.r, .string ⟨x.n.toArray⟩] 109)) mb w.heap.size < rngLeft wr mb w.heap.size from by rw [hr3.left, hlf]; exact hlt2)
      unfold keyV viewV at hn hen
      have hap : cntR r (D ++ [x]) = cntR r D + if x.r == r then 1 else 0 := by simp [cntR, List.countP_cons]
      by_cases hx : x.r = r
      · have hE3 : CntR mb w.heap.size r L w (w2.alloc (.cells #[.int .i64 x.r, .string ⟨x.n.toArray⟩] 109)) (D ++ [x]) T' (acc + 1) := ⟨hr3, hb3, by rw [hap, hacc]; simp [hx]⟩
        have hw : IntKind.i64.wrap (acc + 1) = acc + 1 := by rw [IntKind.wrap_i64, hacc]; rw [hap] at hbd2; simp [hx] at hbd2; omega
        have HE3 : Hid _ := hE3
        have hxb : (x.r == r) = true := by simpa using hx
        clear hE hacc hr2 hlt2 hst2 hsz2 hlf hbd2 hgz hr3 hE3 hb3 hap hx
        go_wp2
        go_roundw
        case rel => exact ⟨acc + 1, rfl, D ++ [x], T', HE3.out⟩
        case measure => exact HLF.out
      · have hE3 : CntR mb w.heap.size r L w (w2.alloc (.cells #[.int .i64 x.r, .string ⟨x.n.toArray⟩] 109)) (D ++ [x]) T' acc := ⟨hr3, hb3, by rw [hap, hacc]; simp [hx]⟩
        have HE3 : Hid _ := hE3
        have hxb : (x.r == r) = false := by simpa using hx
        clear hE hacc hr2 hlt2 hst2 hsz2 hlf hbd2 hgz hr3 hE3 hb3 hap hx
        go_wp2
        go_roundw
        case rel => exact ⟨acc, rfl, D ++ [x], T', HE3.out⟩
        case measure => exact HLF.out
end Go.Proofs.YtnphkmdanicemaaGreatDoor
