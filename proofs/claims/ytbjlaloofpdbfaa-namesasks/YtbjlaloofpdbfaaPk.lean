import Derived.Test.YtbjlaloofpdbfaaTb
namespace Go.Proofs.Ytbjlaloofpdbfaa
open Go.RowKit Go.PlainAid Go.MapKept
set_option linter.unusedVariables false
set_option linter.unusedSimpArgs false
def rngLeft (w : World) (mb r : Nat) : Nat :=
  match w.heap[mb]?, w.heap[r]? with
  | some (.map es _), some (.mapIter _ _ seen _) => (leftOf es seen).size
  | _, _ => 0
section
variable {K V : Type} [DecidableEq K] {M : ML K V}
theorem Rng.left {w : World} {mb r : Nat} {L D T : List (K × V)} (h : Rng M w mb r L D T) : rngLeft w mb r = T.length := by
  obtain ⟨es, c, s, sn, c0, hb, hs, he, hr, hold, hsc, hsk, hl, hp⟩ := h
  simp only [rngLeft, hb, hr]
  simpa using congrArg List.length hl
theorem Rng.next2 {w : World} {mb r : Nat} {L D T : List (K × V)} (h : Rng M w mb r L D T) :
    (T = [] ∧ ∀ ty, (Instr.next (.pointer (some ⟨r, 0, none⟩)) false ty).run Try.prog w = .ok (.tuple #[.bool false]) w) ∨
    ∃ x T' w', (∀ ty, (Instr.next (.pointer (some ⟨r, 0, none⟩)) false ty).run Try.prog w = .ok (.tuple #[.bool true, M.kE x.1, M.vE x.2]) w') ∧ (Instr.entry (.pointer (some ⟨r, 0, none⟩))).run Try.prog w' = .ok (.tuple #[M.kE x.1, M.vE x.2]) w' ∧
      Rng M w' mb r L (D ++ [x]) T' ∧ T'.length < T.length ∧ Chg (fun k => k = r) w w' ∧ w'.heap.size = w.heap.size := by
  rcases h.next 0 with ⟨h1, h2⟩ | ⟨x, T', w', h1, h2⟩
  · exact Or.inl ⟨h1, fun ty => h2⟩
  · exact Or.inr ⟨x, T', w', fun ty => h1, h2⟩
end
def newCode (me rep per : Int) : Int := if rep < 2 ∨ 16 < rep ∨ per < 1 ∨ 4 < per then 1 else if me < 0 ∨ rep ≤ me then 3 else 0
set_option maxRecDepth 100000 in
set_option maxHeartbeats 1600000 in
theorem new_any (me rep per : Int) (w : World) (h : newCode me rep per = 0) :
    Calls Try.prog 16 #[.int .i64 me, .int .i64 rep, .int .i64 per] w fun e w' => e = .returned (.tuple #[.pointer (some ⟨w.heap.size + 2, 0, none⟩), .int .i64 0]) ∧ Tb (w.heap.size + 2) w.heap.size (w.heap.size + 1) me rep per [] [] w' ∧ Below w.heap.size w w' ∧ w'.heap.size = w.heap.size + 3 := by
  have h2 : ¬ rep < 2 ∧ ¬ 16 < rep ∧ ¬ per < 1 ∧ ¬ 4 < per ∧ ¬ me < 0 ∧ ¬ rep ≤ me := by
    unfold newCode at h
    split at h
    · cases h
    · split at h
      · cases h
      · omega
  obtain ⟨a1, a2, a3, a4, a5, a6⟩ := h2
  have hmm := @run_makeMap Try.prog
  clear h
  go_enter Try.func16, Try.ntmps16
  go_wp2_with fail
  go_ret2
  have g1 : Below w.heap.size w (w.alloc (.map #[] 0)) := (Below.refl _ _).alloc (Nat.le_refl _) _
  have g2 : Below w.heap.size w ((w.alloc (.map #[] 0)).alloc (.map #[] 0)) := g1.alloc (by simp) _
  refine ⟨rfl, ⟨?_, ?_, ?_, by omega⟩, g2.alloc g2.size _, by simp⟩
  · have := heap_alloc_new ((w.alloc (.map #[] 0)).alloc (.map #[] 0)) (.cells #[.int .i64 me, .int .i64 rep, .int .i64 per, .map (some w.heap.size), .map (some (w.heap.size + 1))] 72)
    rw [World.size_alloc, World.size_alloc] at this
    exact this
  · exact (HMap.made w).same ((((Below.refl _ _).alloc (Nat.le_refl _) _).alloc (by simp) _).block _ (by simp))
  · have hm := HMap.made (M := MC) (w.alloc (.map #[] 0))
    rw [World.size_alloc] at hm
    exact hm.same (((Below.refl _ _).alloc (Nat.le_refl _) _).block _ (by simp))
set_option maxRecDepth 100000 in
set_option maxHeartbeats 1600000 in
theorem new_no (me rep per : Int) (w : World) (h : newCode me rep per ≠ 0) :
    Calls Try.prog 16 #[.int .i64 me, .int .i64 rep, .int .i64 per] w fun e w' => e = .returned (.tuple #[.pointer none, .int .i64 (newCode me rep per)]) ∧ w' = w := by
  by_cases h1 : rep < 2
  · have hc : newCode me rep per = 1 := by unfold newCode; rw [if_pos (Or.inl h1)]
    rw [hc]
    clear h hc
    go_enter Try.func16, Try.ntmps16
    go_wp2_with fail
    go_ret2
    exact ⟨rfl, rfl⟩
  by_cases h2 : 16 < rep
  · have hc : newCode me rep per = 1 := by unfold newCode; rw [if_pos (Or.inr (Or.inl h2))]
    rw [hc]
    clear h hc
    go_enter Try.func16, Try.ntmps16
    go_wp2_with fail
    go_ret2
    exact ⟨rfl, rfl⟩
  by_cases h3 : per < 1
  · have hc : newCode me rep per = 1 := by unfold newCode; rw [if_pos (Or.inr (Or.inr (Or.inl h3)))]
    rw [hc]
    clear h hc
    go_enter Try.func16, Try.ntmps16
    go_wp2_with fail
    go_ret2
    exact ⟨rfl, rfl⟩
  by_cases h4 : 4 < per
  · have hc : newCode me rep per = 1 := by unfold newCode; rw [if_pos (Or.inr (Or.inr (Or.inr h4)))]
    rw [hc]
    clear h hc
    go_enter Try.func16, Try.ntmps16
    go_wp2_with fail
    go_ret2
    exact ⟨rfl, rfl⟩
  have hn : ¬ (rep < 2 ∨ 16 < rep ∨ per < 1 ∨ 4 < per) := by omega
  by_cases h5 : me < 0
  · have hc : newCode me rep per = 3 := by unfold newCode; rw [if_neg hn, if_pos (Or.inl h5)]
    rw [hc]
    clear h hc hn
    go_enter Try.func16, Try.ntmps16
    go_wp2_with fail
    go_ret2
    exact ⟨rfl, rfl⟩
  by_cases h6 : rep ≤ me
  · have hc : newCode me rep per = 3 := by unfold newCode; rw [if_neg hn, if_pos (Or.inr h6)]
    rw [hc]
    clear h hc hn
    go_enter Try.func16, Try.ntmps16
    go_wp2_with fail
    go_ret2
    exact ⟨rfl, rfl⟩
  exact absurd (by unfold newCode; rw [if_neg hn, if_neg (by omega)]) h
def knows (n : List UInt8) (KN : List (List UInt8 × Int)) : Bool := (look n KN).isSome
def cntH (h : Int) (KN : List (List UInt8 × Int)) : Nat := KN.countP fun p => p.2 == h
theorem cntH_le (r : Int) (L : List (List UInt8 × Int)) : cntH r L ≤ L.length := List.countP_le_length
theorem cntH_perm {r : Int} {a b : List (List UInt8 × Int)} (h : a.Perm b) : cntH r a = cntH r b := h.countP_eq _
set_option maxRecDepth 100000 in
set_option maxHeartbeats 1600000 in
theorem knows_any {hb mh mw : Nat} {me rep per : Int} {KN : List (List UInt8 × Int)} {WT : List ((Int × Int) × OpA)} (n : List UInt8) (w : World) (hT : Tb hb mh mw me rep per KN WT w) :
    Calls Try.prog 23 #[.pointer (some ⟨hb, 0, none⟩), .string ⟨n.toArray⟩] w fun e w' => e = .returned (.bool (knows n KN)) ∧ w' = w := by
  have hlk : (Instr.lookup 69 (.map (some mh)) (.string ⟨n.toArray⟩) true).run Try.prog w = .ok (.tuple #[.int .i64 ((look n KN).getD 0), .bool (knows n KN)]) w := hT.hm.look_ok n true
  have c3 := hT.c3
  clear hT
  generalize (look n KN).getD 0 = z at *
  generalize knows n KN = b at *
  go_enter Try.func23, Try.ntmps23
  go_wp2_with fail
  go_ret
  exact ⟨rfl, rfl⟩
structure CntT (mb it : Nat) (r : Int) (L : List (List UInt8 × Int)) (w wr : World) (D T : List (List UInt8 × Int)) (acc : Int) : Prop where
  rng : Rng MH wr mb it L D T
  bel : Below w.heap.size w wr
  sum : acc = (cntH r D : Nat)
def CntE (mb it : Nat) (r : Int) (L : List (List UInt8 × Int)) (w wr : World) (acc : Int) : Prop := ∃ D T, CntT mb it r L w wr D T acc
set_option maxRecDepth 100000 in
set_option maxHeartbeats 1600000 in
theorem room_any {hb mh mw : Nat} {me rep per : Int} {KN : List (List UInt8 × Int)} {WT : List ((Int × Int) × OpA)} (r : Int) (w : World) (hT : Tb hb mh mw me rep per KN WT w) (hL : KN.length ≤ 100000) :
    Calls Try.prog 38 #[.pointer (some ⟨hb, 0, none⟩), .int .i64 r] w fun e w' => e = .returned (.bool (decide ((cntH r KN : Int) < per))) ∧ Below w.heap.size w w' := by
  have c3 := hT.c3
  have HC2 : Hid (∀ w', Below w.heap.size w w' → w'.cell? ⟨hb, 2, none⟩ = some (.int .i64 per)) := fun w' hw => (hw.cell (p := ⟨hb, 2, none⟩) (World.block_lt_of_cell? w _ hT.c2)).trans hT.c2
  obtain ⟨w1, hrg, hR, hb1, hs1⟩ := hT.hm.range
  replace hrg : (Instr.range 69 (.map (some mh))).run Try.prog w = .ok (.pointer (some ⟨w.heap.size, 0, none⟩)) w1 := hrg
  have hbd : ∀ D T : List (List UInt8 × Int), (D ++ T).Perm KN → cntH r D ≤ 100000 := fun D T hp => by
    have h1 := cntH_le r D
    have h2 := hp.length_eq
    simp at h2
    omega
  have H0 : Hid _ := (⟨hR, hb1, rfl⟩ : CntT mh w.heap.size r KN w w1 [] KN 0)
  have HBD : Hid _ := hbd
  clear hR hb1 hbd hT hs1
  go_enter Try.func38, Try.ntmps38
  go_wp2_with fail
  go_loopw [5, 7] (fun i _ wr => ∃ acc, i = .int .i64 acc ∧ CntE mh w.heap.size r KN w wr acc) (fun _ _ wr => rngLeft wr mh w.heap.size)
  case atStart => exact ⟨0, rfl, [], KN, H0.out⟩
  case round =>
    obtain ⟨acc, rfl, D, T, hE⟩ := hrel
    have hacc := hE.sum
    rcases hE.rng.next2 with ⟨hT, hn⟩ | ⟨x, T', w2, hn, hen, hr2, hlt2, hst2, hsz2⟩
    · have hfin : acc = (cntH r KN : Nat) := by
        have := hE.rng.perm
        rw [hT, List.append_nil] at this
        rw [hacc, cntH_perm this]
      have HF : Hid _ := hE.bel
      have c2 := HC2.out _ hE.bel
      clear hE hT hacc H0 HBD HC2
      subst hfin
      go_wp2_with fail
      go_ret
      exact ⟨by first | rfl | simp, HF.out⟩
    · have hlf := hE.rng.left
      have hbd2 := HBD.out _ _ hr2.perm
      have b2 : Below w.heap.size w w2 := hE.bel.trans (hst2.below hE.bel.size (fun k e => by rw [e]; exact Nat.le_refl _))
      have HLF : Hid _ := (show rngLeft w2 mh w.heap.size < rngLeft wr mh w.heap.size from by rw [hr2.left, hlf]; exact hlt2)
      replace hn : ∀ ty, (Instr.next (.pointer (some ⟨w.heap.size, 0, none⟩)) false ty).run Try.prog wr = .ok (.tuple #[.bool true, .string ⟨x.1.toArray⟩, .int .i64 x.2]) w2 := hn
      replace hen : (Instr.entry (.pointer (some ⟨w.heap.size, 0, none⟩))).run Try.prog w2 = .ok (.tuple #[.string ⟨x.1.toArray⟩, .int .i64 x.2]) w2 := hen
      have hap : cntH r (D ++ [x]) = cntH r D + if x.2 == r then 1 else 0 := by simp [cntH, List.countP_cons]
      by_cases hx : x.2 = r
      · have hE3 : CntT mh w.heap.size r KN w w2 (D ++ [x]) T' (acc + 1) := ⟨hr2, b2, by rw [hap, hacc]; simp [hx]⟩
        have hw : IntKind.i64.wrap (acc + 1) = acc + 1 := by rw [IntKind.wrap_i64, hacc]; rw [hap] at hbd2; simp [hx] at hbd2; omega
        have HE3 : Hid _ := hE3
        have hxb : (x.2 == r) = true := by simpa using hx
        clear hE hacc hr2 hlt2 hst2 hsz2 hlf hbd2 hE3 b2 hap hx H0 HBD
        go_wp2_with fail
        go_roundw
        case rel => exact ⟨acc + 1, rfl, D ++ [x], T', HE3.out⟩
        case measure => exact HLF.out
      · have hE3 : CntT mh w.heap.size r KN w w2 (D ++ [x]) T' acc := ⟨hr2, b2, by rw [hap, hacc]; simp [hx]⟩
        have HE3 : Hid _ := hE3
        have hxb : (x.2 == r) = false := by simpa using hx
        clear hE hacc hr2 hlt2 hst2 hsz2 hlf hbd2 hE3 b2 hap hx H0 HBD
        go_wp2_with fail
        go_roundw
        case rel => exact ⟨acc, rfl, D ++ [x], T', HE3.out⟩
        case measure => exact HLF.out
end Go.Proofs.Ytbjlaloofpdbfaa
