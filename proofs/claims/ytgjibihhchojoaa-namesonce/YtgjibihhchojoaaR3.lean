import Derived.Test.YtgjibihhchojoaaR1
namespace Go.Proofs.Ytgjibihhchojoaa
open Go.RowKit Go.PlainAid
set_option linter.unusedVariables false
set_option linter.unusedSimpArgs false
theorem flatA_get : ∀ (es : List ((Int × Int) × OpA)) (i j : Nat) (e : (Int × Int) × OpA), es[i]? = some e → j < 6 → (flatA es)[i * 6 + j]? = (askcs e)[j]?
  | [], _, _, _, h, _ => by simp at h
  | x :: t, 0, j, e, h, hj => by
    simp at h
    subst h
    simp only [flatA, List.flatMap_cons, Nat.zero_mul, Nat.zero_add]
    exact List.getElem?_append_left (by simp [askcs]; omega)
  | x :: t, i + 1, j, e, h, hj => by
    have ih := flatA_get t i j e (by simpa using h) hj
    simp only [flatA, List.flatMap_cons] at ih ⊢
    rw [List.getElem?_append_right (by simp [askcs]; omega)]
    rw [← ih]
    congr 1
    simp [askcs]
    omega
/-- A call that waits, in memory. -/
structure AskAt (w : World) (g q : Nat) (p : (Int × Int) × OpA) : Prop where
  c0 : w.cell? ⟨g, q * 6, none⟩ = some (.int .i64 p.1.1)
  c1 : w.cell? ⟨g, q * 6 + 1, none⟩ = some (.int .i64 p.1.2)
  c2 : w.cell? ⟨g, q * 6 + 2, none⟩ = some (.int .i64 p.2.k)
  c3 : w.cell? ⟨g, q * 6 + 3, none⟩ = some (.string ⟨p.2.n.toArray⟩)
  c4 : w.cell? ⟨g, q * 6 + 4, none⟩ = some (.int .i64 p.2.a)
  c5 : w.cell? ⟨g, q * 6 + 5, none⟩ = some (.int .i64 p.2.b)
theorem askAt {w : World} {B : Nat} {v : Value} {WL : List ((Int × Int) × OpA)} (h : w.ownsRow B 108 6 v WL.length (flatA WL)) {q : Nat} {p : (Int × Int) × OpA} (hx : WL[q]? = some p) : ∃ g cap, v = .slice (some ⟨g, 0, none⟩) WL.length cap ∧ AskAt w g q p := by
  have hq := (List.getElem?_eq_some_iff.1 hx).1
  rcases h.2 with ⟨_, h0⟩ | ⟨g, cap, cur, rfl, _⟩
  · omega
  · have key : ∀ j u, (askcs p)[j]? = some u → w.cell? ⟨g, q * 6 + j, none⟩ = some u := fun j u hu => by
      have hj : j < 6 := by have := (List.getElem?_eq_some_iff.1 hu).1; simpa [askcs] using this
      have := h.cells (g := g) rfl (q * 6 + j) u (by rw [flatA_get WL q j p hx hj]; exact hu)
      rw [addr_add, Nat.zero_add] at this
      exact this
    exact ⟨g, cap, rfl, key 0 _ rfl, key 1 _ rfl, key 2 _ rfl, key 3 _ rfl, key 4 _ rfl, key 5 _ rfl⟩
theorem AskAt.keep {w w' : World} {g q : Nat} {p : (Int × Int) × OpA} (h : AskAt w g q p) (hb : Below w.heap.size w w') : AskAt w' g q p := by
  have hg := World.block_lt_of_cell? w _ h.c0
  have key : ∀ j, w'.cell? ⟨g, j, none⟩ = w.cell? ⟨g, j, none⟩ := fun j => hb.cell (p := ⟨g, j, none⟩) hg
  exact ⟨(key _).trans h.c0, (key _).trans h.c1, (key _).trans h.c2, (key _).trans h.c3, (key _).trans h.c4, (key _).trans h.c5⟩
theorem info108 : (Try.prog.info? 108).map (fun i => (i.zero, i.size, i.bytes)) = some (some (.agg #[.int .i64 0, .int .i64 0, .int .i64 0, .string ⟨#[]⟩, .int .i64 0, .int .i64 0]), 6, 56) := by kernel_rfl
theorem append_ask {w : World} {L ln : Nat} {v : Value} {es : List ((Int × Int) × OpA)} (p : (Int × Int) × OpA) (hr : w.ownsRow L 108 6 v ln (flatA es)) (hln : ln ≤ 100000) (hL : L ≤ w.heap.size) (ty : TypeId) :
    ∃ v5 w5, (Builtin.append_ #[95, 95] ty #[v, .slice (some ⟨w.heap.size, 0, none⟩) 1 1]).run Try.prog (w.alloc (.cells #[.int .i64 p.1.1, .int .i64 p.1.2, .int .i64 p.2.k, .string ⟨p.2.n.toArray⟩, .int .i64 p.2.a, .int .i64 p.2.b] 108)) = .ok v5 w5 ∧ w5.ownsRow L 108 6 v5 (ln + 1) (flatA (es ++ [p])) ∧ Grew w w5 v v5 := by
  obtain ⟨v', w', h1, h2, h3, _⟩ := app_any 95 108 (.agg #[.int .i64 0, .int .i64 0, .int .i64 0, .string ⟨#[]⟩, .int .i64 0, .int .i64 0]) 6 56 Try.underlying95 info108 rfl (by decide) (by decide) (hr.alloc (.cells #[.int .i64 p.1.1, .int .i64 p.1.2, .int .i64 p.2.k, .string ⟨p.2.n.toArray⟩, .int .i64 p.2.a, .int .i64 p.2.b] 108)) ⟨w.heap.size, 0, none⟩ 1 1 (askcs p) rfl (fun j u hu => by
    rw [addr_add, Nat.zero_add]
    have hB : Blk (w.alloc (.cells #[.int .i64 p.1.1, .int .i64 p.1.2, .int .i64 p.2.k, .string ⟨p.2.n.toArray⟩, .int .i64 p.2.a, .int .i64 p.2.b] 108)) w.heap.size #[.int .i64 p.1.1, .int .i64 p.1.2, .int .i64 p.2.k, .string ⟨p.2.n.toArray⟩, .int .i64 p.2.a, .int .i64 p.2.b] 108 := heap_alloc_new w _
    rw [hB.cell j]
    simpa [askcs] using hu) (fun u hu => by simp [askcs] at hu; rcases hu with rfl | rfl | rfl | rfl | rfl | rfl <;> rfl) (by omega) (by rw [World.size_alloc]; omega) ty
  refine ⟨v', w', h1, ?_, h3.ofAlloc⟩
  rw [flatA_append]
  have : flatA [p] = askcs p := by simp [flatA]
  rw [this]
  exact h2
def WLook (c : Int × Int) (WL : List ((Int × Int) × OpA)) : Bool := (look c WL).isSome
theorem look_none_iff {c : Int × Int} {WL : List ((Int × Int) × OpA)} (h : ∀ p ∈ WL, p.1 ≠ c) : (look c WL).isSome = false := by
  unfold look
  have : WL.find? (fun p => decide (c = p.1)) = none := by
    rw [List.find?_eq_none]
    intro x hx
    simpa using fun e => h x hx e.symm
  rw [this]
  rfl
theorem look_some_of {c : Int × Int} {WL : List ((Int × Int) × OpA)} {p : (Int × Int) × OpA} (hp : p ∈ WL) (h : p.1 = c) : (look c WL).isSome = true := by
  unfold look
  cases hf : WL.find? (fun p => decide (c = p.1)) with
  | some x => rfl
  | none =>
    have := List.find?_eq_none.1 hf p hp
    simp [h] at this
set_option maxRecDepth 100000 in
set_option maxHeartbeats 1600000 in
theorem rask_any {B rb : Nat} {kl wl : Value} {me rep per : Int} {KL : List (List UInt8)} {WL : List ((Int × Int) × OpA)} (c : Int × Int) (o : OpA) (w : World) (hT : RT B rb kl wl me rep per KL WL w) (hL : WL.length ≤ 100000) (hl : o.n.length ≤ 140737488355328) :
    Calls Try.prog 56 #[.pointer (some ⟨rb, 0, none⟩), callV c, opV o] w fun q w' => q = .returned (.int .i64 (askCode WL c o)) ∧ RPost B rb kl wl me rep per KL (askNext WL c o) w w' := by
  obtain ⟨cs, ci⟩ := c
  obtain ⟨k, n, a, b⟩ := o
  simp only at hl
  have HG : Hid (∀ w, _) := fun w => rgood_any n w (by omega)
  unfold callV opV
  simp only
  obtain ⟨X, hX⟩ : ∃ X, X = (w.alloc (.cells #[.int .i64 cs, .int .i64 ci] 37)).alloc (.cells #[.int .i64 k, .string ⟨n.toArray⟩, .int .i64 a, .int .i64 b] 39) := ⟨_, rfl⟩
  have hb1 : Below w.heap.size w (w.alloc (.cells #[.int .i64 cs, .int .i64 ci] 37)) := (Below.refl _ _).alloc (Nat.le_refl _) _
  have hbX : Below w.heap.size w X := by rw [hX]; exact hb1.alloc hb1.size _
  have hCB : Blk X w.heap.size #[.int .i64 cs, .int .i64 ci] 37 := by
    rw [hX]
    exact Blk.below (heap_alloc_new w _) ((Below.refl _ _).alloc (Nat.le_refl _) _) (by simp)
  have hOB : Blk X (w.heap.size + 1) #[.int .i64 k, .string ⟨n.toArray⟩, .int .i64 a, .int .i64 b] 39 := by
    rw [hX]
    have := heap_alloc_new (w.alloc (.cells #[.int .i64 cs, .int .i64 ci] 37)) (.cells #[.int .i64 k, .string ⟨n.toArray⟩, .int .i64 a, .int .i64 b] 39)
    rw [World.size_alloc] at this
    exact this
  have HT : Hid _ := hT
  have HTX : Hid _ := hT.more hbX
  have HBX : Hid _ := hbX
  obtain ⟨cb, hcb⟩ : ∃ cb, cb = w.heap.size := ⟨_, rfl⟩
  obtain ⟨ob, hob⟩ : ∃ ob, ob = w.heap.size + 1 := ⟨_, rfl⟩
  have HCBX : Hid (Blk X cb #[.int .i64 cs, .int .i64 ci] 37) := show Blk X cb #[.int .i64 cs, .int .i64 ci] 37 from by rw [hcb]; exact hCB
  have HOB : Hid (Blk X ob #[.int .i64 k, .string ⟨n.toArray⟩, .int .i64 a, .int .i64 b] 39) := show Blk X ob #[.int .i64 k, .string ⟨n.toArray⟩, .int .i64 a, .int .i64 b] 39 from by rw [hob]; exact hOB
  have o1 : X.cell? ⟨ob, 1, none⟩ = some (.string ⟨n.toArray⟩) := HOB.out.cell 1
  obtain ⟨ao, cap, hv, _⟩ := own_slice hT.wr
  have HWV : Hid (wl = .slice ao WL.length cap) := hv
  have HC4 : Hid (∀ wr, Below X.heap.size X wr → wr.cell? ⟨rb, 4, none⟩ = some (.slice ao WL.length cap)) := fun wr hw => by
    have := (HTX.out.more hw).c4
    rw [hv] at this
    exact this
  have HLN : Hid (WL.length ≤ 100000) := hL
  clear hb1 hbX hCB hOB hT hv
  by_cases g1 : nameB n = false
  · have hc : askCode WL (cs, ci) ⟨k, n, a, b⟩ = 1 := by unfold askCode; rw [if_pos g1]
    have hnx : askNext WL (cs, ci) ⟨k, n, a, b⟩ = WL := by unfold askNext; rw [hc, if_neg (by decide)]
    rw [hc, hnx]
    clear hc hL hnx
    go_enter Try.func56, Try.ntmps56
    go_wp2_with fail
    rw [← hX, ← hob, ← hcb]
    clear hX hob hcb
    refine Calls.mono (HG.out _) ?_
    rintro e w' ⟨rfl, hw'⟩
    replace hw' := hw'.symm
    subst hw'
    try rw [g1]
    clear o1
    go_wp2_with fail
    go_ret
    exact ⟨rfl, RPost.same HT.out HBX.out⟩
  have g1t : nameB n = true := by simpa using g1
  go_enter Try.func56, Try.ntmps56
  go_wp2_with fail
  rw [← hX, ← hob, ← hcb]
  clear hX hob hcb
  refine Calls.mono (HG.out _) ?_
  rintro e w' ⟨rfl, hw'⟩
  replace hw' := hw'.symm
  subst hw'
  rw [g1t]
  have HG1 : Hid (¬ nameB n = false) := g1
  clear o1 g1 g1t
  go_wp2_with fail
  have H0 : Hid _ := Below.refl X.heap.size X
  go_loopw [8] (fun i wr => ∃ q : Nat, q ≤ WL.length ∧ i = .int .i64 q ∧ (∀ p ∈ WL.take q, p.1 ≠ (cs, ci)) ∧ Below X.heap.size X wr) (fun i _ => WL.length - (intOf i).toNat)
  case atStart => exact ⟨0, Nat.zero_le _, rfl, by simp, H0.out⟩
  case round =>
    obtain ⟨q, hq, rfl, hpre, hbel⟩ := hrel
    have XW := HC4.out wr hbel
    by_cases hlt : q < WL.length
    · obtain ⟨p, hp⟩ : ∃ p, WL[q]? = some p := ⟨WL[q], List.getElem?_eq_getElem hlt⟩
      obtain ⟨g, cap2, hv2, XA⟩ := askAt (HTX.out.more hbel).wr hp
      rw [HWV.out] at hv2
      cases hv2
      have hlti : (q : Int) < (WL.length : Int) := by omega
      have HCB : Hid (Blk wr cb #[.int .i64 cs, .int .i64 ci] 37) := Blk.below HCBX.out hbel (Blk.lt HCBX.out)
      have HEQ0 : Hid (∀ wr, (Go.Op.equal 37 (.agg #[.int .i64 p.1.1, .int .i64 p.1.2]) (.agg #[.int .i64 cs, .int .i64 ci])).run Try.prog wr = .ok (decide (p.1 = (cs, ci))) wr) := fun wr => eq_call p.1 (cs, ci) wr
      have HBE : Hid _ := hbel
      by_cases he : p.1 = (cs, ci)
      · have HEQ : Hid (∀ wr, (Go.Op.equal 37 (.agg #[.int .i64 p.1.1, .int .i64 p.1.2]) (.agg #[.int .i64 cs, .int .i64 ci])).run Try.prog wr = .ok true wr) := fun wr => by
          have := HEQ0.out wr
          rw [decide_eq_true he] at this
          exact this
        have HCD : Hid (askCode WL (cs, ci) ⟨k, n, a, b⟩ = 133) := show askCode WL (cs, ci) ⟨k, n, a, b⟩ = 133 from by
          unfold askCode
          rw [if_neg HG1.out, if_pos (look_some_of (List.mem_of_getElem? hp) he)]
        have HE : Hid (p.1.1 = cs ∧ p.1.2 = ci) := ⟨congrArg Prod.fst he, congrArg Prod.snd he⟩
        clear hpre hp he HEQ0 hbel
        go_wp2_with fail
        rename_i K hK
        try rw [show ∀ a : Act, a.put none undef = a from fun _ => rfl]
        refine wp_region_mix (fun wq => Below wr.heap.size wr wq) (fun i => i == 99) 99 (by kernel_rfl) rfl (by kernel_rfl) (by kernel_rfl) (by kernel_rfl) ?_
        refine withFrP (N := 45) rfl ?_
        intro f0 F0 hff
        have e0 : f0 0 = Value.pointer (some ⟨rb, 0, none⟩) := hff 0
        have ec : f0 4 = Value.pointer (some ⟨cb, 0, none⟩) := hff 4
        have ei : f0 8 = Value.int .i64 (q : Int) := hff 8
        clear hff
        have HCC : (fun wq => Below wr.heap.size wr wq) (({ wr with drawn := wr.drawn + 1 } : World)) := (Below.drew (Below.refl wr.heap.size wr))
        have V4 : ∀ wq, Below wr.heap.size wr wq → wq.cell? ⟨rb, 4, none⟩ = some (.slice (some ⟨g, 0, none⟩) WL.length cap) := fun wq hw => (hw.cell (p := ⟨rb, 4, none⟩) (World.block_lt_of_cell? wr _ XW)).trans XW
        have VA : ∀ wq, Below wr.heap.size wr wq → AskAt wq g q p := fun wq hw => XA.keep hw
        have U0 : ∀ wq, Below wr.heap.size wr wq → wq.cell? ⟨cb, 0, none⟩ = some (.int .i64 cs) := fun wq hw => (Blk.below HCB.out hw (Blk.lt HCB.out)).cell 0
        have U1 : ∀ wq, Below wr.heap.size wr wq → wq.cell? ⟨cb, 1, none⟩ = some (.int .i64 ci) := fun wq hw => (Blk.below HCB.out hw (Blk.lt HCB.out)).cell 1
        refine lyp F0 rfl HCC rfl (by omega) (wanted_none rfl) (v := Value.pointer (some ⟨rb, 0, none⟩)) (fun wr hwr => by simp only [execOp, (F0.eval 0 (by omega)).trans (show _ = Value.pointer (some ⟨rb, 0, none⟩) from by simp [upd, e0, ec, ei])]; first | rfl | simp [go_sem]) fun F1 => ?_
        refine lyp F1 rfl HCC rfl (by omega) (wanted_none rfl) (v := Value.pointer (some ⟨rb, 0, none⟩)) (fun wr hwr => by simp only [execOp, (F1.eval 23 (by omega)).trans (show _ = Value.pointer (some ⟨rb, 0, none⟩) from by simp [upd, e0, ec, ei])]; simp [go_sem]) fun F2 => ?_
        refine lyp F2 rfl HCC rfl (by omega) (wanted_none rfl) (v := Value.pointer (some ⟨rb, 4, none⟩)) (fun wr hwr => by simp only [execOp, (F2.eval 24 (by omega)).trans (show _ = Value.pointer (some ⟨rb, 0, none⟩) from by simp [upd, e0, ec, ei])]; simp [go_sem]) fun F3 => ?_
        refine lyp F3 rfl HCC rfl (by omega) (wanted_none rfl) (v := Value.slice (some ⟨g, 0, none⟩) WL.length cap) (fun wr hwr => by simp only [execOp, (F3.eval 25 (by omega)).trans (show _ = Value.pointer (some ⟨rb, 4, none⟩) from by simp [upd, e0, ec, ei])]; simp [go_sem, V4 _ hwr]) fun F4 => ?_
        refine lyp F4 rfl HCC rfl (by omega) (wanted_none rfl) (v := Value.int .i64 (q : Int)) (fun wr hwr => by simp only [execOp, (F4.eval 8 (by omega)).trans (show _ = Value.int .i64 (q : Int) from by simp [upd, e0, ec, ei])]; first | rfl | simp [go_sem]) fun F5 => ?_
        refine lyp F5 rfl HCC rfl (by omega) (wanted_none rfl) (v := Value.pointer (some ⟨g, q * 6, none⟩)) (fun wr hwr => by simp only [execOp, (F5.eval 26 (by omega)).trans (show _ = Value.slice (some ⟨g, 0, none⟩) WL.length cap from by simp [upd, e0, ec, ei]), (F5.eval 27 (by omega)).trans (show _ = Value.int .i64 (q : Int) from by simp [upd, e0, ec, ei])]; simp [go_sem, hlt]) fun F6 => ?_
        refine lyp F6 rfl HCC rfl (by omega) (wanted_none rfl) (v := Value.pointer (some ⟨g, q * 6, none⟩)) (fun wr hwr => by simp only [execOp, (F6.eval 28 (by omega)).trans (show _ = Value.pointer (some ⟨g, q * 6, none⟩) from by simp [upd, e0, ec, ei])]; simp [go_sem]) fun F7 => ?_
        refine lyp F7 rfl HCC rfl (by omega) (wanted_none rfl) (v := Value.agg #[.int .i64 p.1.1, .int .i64 p.1.2]) (fun wr hwr => by simp only [execOp, (F7.eval 29 (by omega)).trans (show _ = Value.pointer (some ⟨g, q * 6, none⟩) from by simp [upd, e0, ec, ei])]; simp [go_sem, (VA _ hwr).c0, (VA _ hwr).c1]) fun F8 => ?_
        refine lyp F8 rfl HCC rfl (by omega) (wanted_none rfl) (v := Value.agg #[.int .i64 cs, .int .i64 ci]) (fun wr hwr => by simp only [execOp, (F8.eval 4 (by omega)).trans (show _ = Value.pointer (some ⟨cb, 0, none⟩) from by simp [upd, e0, ec, ei])]; simp [go_sem, U0 _ hwr, U1 _ hwr]) fun F9 => ?_
        refine lyp F9 rfl HCC rfl (by omega) (wanted_none rfl) (v := Value.bool true) (fun wr hwr => by simp only [execOp, (F9.eval 30 (by omega)).trans (show _ = Value.agg #[.int .i64 p.1.1, .int .i64 p.1.2] from by simp [upd, e0, ec, ei]), (F9.eval 31 (by omega)).trans (show _ = Value.agg #[.int .i64 cs, .int .i64 ci] from by simp [upd, e0, ec, ei])]; simp [go_sem, HE.out]) fun F10 => ?_
        refine ⟨fun _ => HCC, ?_⟩
        refine hK _ _ ?_
        clear F0 F1 F2 F3 F4 F5 F6 F7 F8 F9 F10 e0 ec ei V4 VA U0 U1
        simp only [Act.put, List.setIfInBounds_toArray, List.set_cons_succ, List.set_cons_zero]

        have HB2 : Hid (Below w.heap.size w ({ wr with drawn := wr.drawn + 1 } : World)) := (HBX.out.trans (HBE.out.mono HBX.out.size)).trans (HCC.mono (Nat.le_trans HBX.out.size HBE.out.size))
        clear HCC
        go_wp2_with fail
        go_ret
        have hnx : askNext WL (cs, ci) ⟨k, n, a, b⟩ = WL := by unfold askNext; rw [HCD.out, if_neg (by decide)]
        rw [HCD.out, hnx]
        exact ⟨rfl, RPost.same HT.out HB2.out⟩
      · have HEQ : Hid (∀ wr, (Go.Op.equal 37 (.agg #[.int .i64 p.1.1, .int .i64 p.1.2]) (.agg #[.int .i64 cs, .int .i64 ci])).run Try.prog wr = .ok false wr) := fun wr => by
          have := HEQ0.out wr
          rw [decide_eq_false he] at this
          exact this
        have HPR : Hid (∀ y ∈ WL.take (q + 1), y.1 ≠ (cs, ci)) := fun y hy => by
          rw [List.take_add_one, hp] at hy
          rcases List.mem_append.1 hy with hy | hy
          · exact hpre y hy
          · simp at hy
            subst hy
            exact he
        have HE : Hid (¬ (p.1.1 = cs ∧ p.1.2 = ci)) := fun h => he (Prod.ext h.1 h.2)
        clear hpre hp he HEQ0 hbel
        go_wp2_with fail
        rename_i K hK
        try rw [show ∀ a : Act, a.put none undef = a from fun _ => rfl]
        refine wp_region_mix (fun wq => Below wr.heap.size wr wq) (fun i => i == 99) 99 (by kernel_rfl) rfl (by kernel_rfl) (by kernel_rfl) (by kernel_rfl) ?_
        refine withFrP (N := 45) rfl ?_
        intro f0 F0 hff
        have e0 : f0 0 = Value.pointer (some ⟨rb, 0, none⟩) := hff 0
        have ec : f0 4 = Value.pointer (some ⟨cb, 0, none⟩) := hff 4
        have ei : f0 8 = Value.int .i64 (q : Int) := hff 8
        clear hff
        have HCC : (fun wq => Below wr.heap.size wr wq) (({ wr with drawn := wr.drawn + 1 } : World)) := (Below.drew (Below.refl wr.heap.size wr))
        have V4 : ∀ wq, Below wr.heap.size wr wq → wq.cell? ⟨rb, 4, none⟩ = some (.slice (some ⟨g, 0, none⟩) WL.length cap) := fun wq hw => (hw.cell (p := ⟨rb, 4, none⟩) (World.block_lt_of_cell? wr _ XW)).trans XW
        have VA : ∀ wq, Below wr.heap.size wr wq → AskAt wq g q p := fun wq hw => XA.keep hw
        have U0 : ∀ wq, Below wr.heap.size wr wq → wq.cell? ⟨cb, 0, none⟩ = some (.int .i64 cs) := fun wq hw => (Blk.below HCB.out hw (Blk.lt HCB.out)).cell 0
        have U1 : ∀ wq, Below wr.heap.size wr wq → wq.cell? ⟨cb, 1, none⟩ = some (.int .i64 ci) := fun wq hw => (Blk.below HCB.out hw (Blk.lt HCB.out)).cell 1
        refine lyp F0 rfl HCC rfl (by omega) (wanted_none rfl) (v := Value.pointer (some ⟨rb, 0, none⟩)) (fun wr hwr => by simp only [execOp, (F0.eval 0 (by omega)).trans (show _ = Value.pointer (some ⟨rb, 0, none⟩) from by simp [upd, e0, ec, ei])]; first | rfl | simp [go_sem]) fun F1 => ?_
        refine lyp F1 rfl HCC rfl (by omega) (wanted_none rfl) (v := Value.pointer (some ⟨rb, 0, none⟩)) (fun wr hwr => by simp only [execOp, (F1.eval 23 (by omega)).trans (show _ = Value.pointer (some ⟨rb, 0, none⟩) from by simp [upd, e0, ec, ei])]; simp [go_sem]) fun F2 => ?_
        refine lyp F2 rfl HCC rfl (by omega) (wanted_none rfl) (v := Value.pointer (some ⟨rb, 4, none⟩)) (fun wr hwr => by simp only [execOp, (F2.eval 24 (by omega)).trans (show _ = Value.pointer (some ⟨rb, 0, none⟩) from by simp [upd, e0, ec, ei])]; simp [go_sem]) fun F3 => ?_
        refine lyp F3 rfl HCC rfl (by omega) (wanted_none rfl) (v := Value.slice (some ⟨g, 0, none⟩) WL.length cap) (fun wr hwr => by simp only [execOp, (F3.eval 25 (by omega)).trans (show _ = Value.pointer (some ⟨rb, 4, none⟩) from by simp [upd, e0, ec, ei])]; simp [go_sem, V4 _ hwr]) fun F4 => ?_
        refine lyp F4 rfl HCC rfl (by omega) (wanted_none rfl) (v := Value.int .i64 (q : Int)) (fun wr hwr => by simp only [execOp, (F4.eval 8 (by omega)).trans (show _ = Value.int .i64 (q : Int) from by simp [upd, e0, ec, ei])]; first | rfl | simp [go_sem]) fun F5 => ?_
        refine lyp F5 rfl HCC rfl (by omega) (wanted_none rfl) (v := Value.pointer (some ⟨g, q * 6, none⟩)) (fun wr hwr => by simp only [execOp, (F5.eval 26 (by omega)).trans (show _ = Value.slice (some ⟨g, 0, none⟩) WL.length cap from by simp [upd, e0, ec, ei]), (F5.eval 27 (by omega)).trans (show _ = Value.int .i64 (q : Int) from by simp [upd, e0, ec, ei])]; simp [go_sem, hlt]) fun F6 => ?_
        refine lyp F6 rfl HCC rfl (by omega) (wanted_none rfl) (v := Value.pointer (some ⟨g, q * 6, none⟩)) (fun wr hwr => by simp only [execOp, (F6.eval 28 (by omega)).trans (show _ = Value.pointer (some ⟨g, q * 6, none⟩) from by simp [upd, e0, ec, ei])]; simp [go_sem]) fun F7 => ?_
        refine lyp F7 rfl HCC rfl (by omega) (wanted_none rfl) (v := Value.agg #[.int .i64 p.1.1, .int .i64 p.1.2]) (fun wr hwr => by simp only [execOp, (F7.eval 29 (by omega)).trans (show _ = Value.pointer (some ⟨g, q * 6, none⟩) from by simp [upd, e0, ec, ei])]; simp [go_sem, (VA _ hwr).c0, (VA _ hwr).c1]) fun F8 => ?_
        refine lyp F8 rfl HCC rfl (by omega) (wanted_none rfl) (v := Value.agg #[.int .i64 cs, .int .i64 ci]) (fun wr hwr => by simp only [execOp, (F8.eval 4 (by omega)).trans (show _ = Value.pointer (some ⟨cb, 0, none⟩) from by simp [upd, e0, ec, ei])]; simp [go_sem, U0 _ hwr, U1 _ hwr]) fun F9 => ?_
        refine lyp F9 rfl HCC rfl (by omega) (wanted_none rfl) (v := Value.bool false) (fun wr hwr => by simp only [execOp, (F9.eval 30 (by omega)).trans (show _ = Value.agg #[.int .i64 p.1.1, .int .i64 p.1.2] from by simp [upd, e0, ec, ei]), (F9.eval 31 (by omega)).trans (show _ = Value.agg #[.int .i64 cs, .int .i64 ci] from by simp [upd, e0, ec, ei])]; simp [go_sem, HE.out]; first | done | (intro h1 h2; exact HE.out ⟨h1, h2⟩)) fun F10 => ?_
        refine ⟨fun _ => HCC, ?_⟩
        refine hK _ _ ?_
        clear F0 F1 F2 F3 F4 F5 F6 F7 F8 F9 F10 e0 ec ei V4 VA U0 U1
        simp only [Act.put, List.setIfInBounds_toArray, List.set_cons_succ, List.set_cons_zero]

        have HB2 : Hid (Below X.heap.size X ({ wr with drawn := wr.drawn + 1 } : World)) := HBE.out.trans (HCC.mono HBE.out.size)
        clear HCC XW XA
        go_wp2_with fail
        go_roundw
        case rel => exact ⟨q + 1, by omega, by go_num, HPR.out, HB2.out⟩
        case measure => simp [intOf]; omega
    · have hnot : ¬ (q : Int) < (WL.length : Int) := by omega
      have HCD : Hid (askCode WL (cs, ci) ⟨k, n, a, b⟩ = 0) := show askCode WL (cs, ci) ⟨k, n, a, b⟩ = 0 from by
        rw [List.take_of_length_le (by omega)] at hpre
        unfold askCode
        rw [if_neg HG1.out, if_neg (by rw [look_none_iff hpre]; decide)]
      have HTR : Hid _ := HTX.out.more hbel
      have HCR : Hid (Blk wr cb #[.int .i64 cs, .int .i64 ci] 37) := Blk.below HCBX.out hbel (Blk.lt HCBX.out)
      have HOR : Hid (Blk wr ob #[.int .i64 k, .string ⟨n.toArray⟩, .int .i64 a, .int .i64 b] 39) := Blk.below HOB.out hbel (Blk.lt HOB.out)
      have HRO : Hid (World.ownsRow wr B 108 6 (.slice ao WL.length cap) WL.length (flatA WL)) := show World.ownsRow wr B 108 6 (.slice ao WL.length cap) WL.length (flatA WL) from by rw [← HWV.out]; exact HTR.out.wr
      have HBE : Hid (Below w.heap.size w wr) := HBX.out.trans (hbel.mono HBX.out.size)
      clear hpre hbel
      go_wp2_with fail
      try rw [show ∀ a : Act, a.put none undef = a from fun _ => rfl]
      refine wp_region_mix (fun wq => wq.cell? ⟨rb, 4, none⟩ = some (.slice ao WL.length cap) ∧ (wq.cell? ⟨cb, 0, none⟩ = some (.int .i64 cs) ∧ wq.cell? ⟨cb, 1, none⟩ = some (.int .i64 ci)) ∧ (wq.cell? ⟨ob, 0, none⟩ = some (.int .i64 k) ∧ wq.cell? ⟨ob, 1, none⟩ = some (.string ⟨n.toArray⟩) ∧ wq.cell? ⟨ob, 2, none⟩ = some (.int .i64 a) ∧ wq.cell? ⟨ob, 3, none⟩ = some (.int .i64 b))) (fun i => i == 8 || i == 9 || i == 12) 12 (by kernel_rfl) rfl (by kernel_rfl) (by kernel_rfl) (by kernel_rfl) ?_
      refine withFrP (N := 45) rfl ?_
      intro f0 F0 hff
      have e0 : f0 0 = Value.pointer (some ⟨rb, 0, none⟩) := hff 0
      have ec : f0 4 = Value.pointer (some ⟨cb, 0, none⟩) := hff 4
      have eo : f0 5 = Value.pointer (some ⟨ob, 0, none⟩) := hff 5
      clear hff
      have hBr : Blk (({ wr with drawn := wr.drawn + 1 } : World)) rb _ 97 := HTR.out.blk
      have hBc : Blk (({ wr with drawn := wr.drawn + 1 } : World)) cb #[.int .i64 cs, .int .i64 ci] 37 := HCR.out
      have hBo : Blk (({ wr with drawn := wr.drawn + 1 } : World)) ob #[.int .i64 k, .string ⟨n.toArray⟩, .int .i64 a, .int .i64 b] 39 := HOR.out
      have HCC : (fun wq => wq.cell? ⟨rb, 4, none⟩ = some (.slice ao WL.length cap) ∧ (wq.cell? ⟨cb, 0, none⟩ = some (.int .i64 cs) ∧ wq.cell? ⟨cb, 1, none⟩ = some (.int .i64 ci)) ∧ (wq.cell? ⟨ob, 0, none⟩ = some (.int .i64 k) ∧ wq.cell? ⟨ob, 1, none⟩ = some (.string ⟨n.toArray⟩) ∧ wq.cell? ⟨ob, 2, none⟩ = some (.int .i64 a) ∧ wq.cell? ⟨ob, 3, none⟩ = some (.int .i64 b))) (({ wr with drawn := wr.drawn + 1 } : World)) := ⟨XW, ⟨hBc.cell 0, hBc.cell 1⟩, hBo.cell 0, hBo.cell 1, hBo.cell 2, hBo.cell 3⟩
      have hal : Below (({ wr with drawn := wr.drawn + 1 } : World)).heap.size (({ wr with drawn := wr.drawn + 1 } : World)) ((({ wr with drawn := wr.drawn + 1 } : World)).alloc (.cells #[.int .i64 cs, .int .i64 ci, .int .i64 k, .string ⟨n.toArray⟩, .int .i64 a, .int .i64 b] 108)) := (Below.refl _ _).alloc (Nat.le_refl _) _
      have HC1 : (fun wq => wq.cell? ⟨rb, 4, none⟩ = some (.slice ao WL.length cap) ∧ (wq.cell? ⟨cb, 0, none⟩ = some (.int .i64 cs) ∧ wq.cell? ⟨cb, 1, none⟩ = some (.int .i64 ci)) ∧ (wq.cell? ⟨ob, 0, none⟩ = some (.int .i64 k) ∧ wq.cell? ⟨ob, 1, none⟩ = some (.string ⟨n.toArray⟩) ∧ wq.cell? ⟨ob, 2, none⟩ = some (.int .i64 a) ∧ wq.cell? ⟨ob, 3, none⟩ = some (.int .i64 b))) ((({ wr with drawn := wr.drawn + 1 } : World)).alloc (.cells #[.int .i64 cs, .int .i64 ci, .int .i64 k, .string ⟨n.toArray⟩, .int .i64 a, .int .i64 b] 108)) := ⟨(hal.cell (p := ⟨rb, 4, none⟩) (World.block_lt_of_cell? wr _ XW)).trans XW, ⟨(Blk.below hBc hal (Blk.lt hBc)).cell 0, (Blk.below hBc hal (Blk.lt hBc)).cell 1⟩, (Blk.below hBo hal (Blk.lt hBo)).cell 0, (Blk.below hBo hal (Blk.lt hBo)).cell 1, (Blk.below hBo hal (Blk.lt hBo)).cell 2, (Blk.below hBo hal (Blk.lt hBo)).cell 3⟩
      refine lyp F0 rfl HCC rfl (by omega) (wanted_none rfl) (v := Value.pointer (some ⟨rb, 0, none⟩)) (fun wr hwr => by simp only [execOp, (F0.eval 0 (by omega)).trans (show _ = Value.pointer (some ⟨rb, 0, none⟩) from by simp [upd, e0, ec, eo])]; first | rfl | simp [go_sem]) fun F1 => ?_
      refine lyp F1 rfl HCC rfl (by omega) (wanted_none rfl) (v := Value.pointer (some ⟨rb, 0, none⟩)) (fun wr hwr => by simp only [execOp, (F1.eval 0 (by omega)).trans (show _ = Value.pointer (some ⟨rb, 0, none⟩) from by simp [upd, e0, ec, eo])]; first | rfl | simp [go_sem]) fun F2 => ?_
      refine lyp F2 rfl HCC rfl (by omega) (wanted_none rfl) (v := Value.pointer (some ⟨rb, 0, none⟩)) (fun wr hwr => by simp only [execOp, (F2.eval 34 (by omega)).trans (show _ = Value.pointer (some ⟨rb, 0, none⟩) from by simp [upd, e0, ec, eo])]; simp [go_sem]) fun F3 => ?_
      refine lyp F3 rfl HCC rfl (by omega) (wanted_none rfl) (v := Value.pointer (some ⟨rb, 4, none⟩)) (fun wr hwr => by simp only [execOp, (F3.eval 35 (by omega)).trans (show _ = Value.pointer (some ⟨rb, 0, none⟩) from by simp [upd, e0, ec, eo])]; simp [go_sem]) fun F4 => ?_
      refine lyp F4 rfl HCC rfl (by omega) (wanted_none rfl) (v := Value.slice ao WL.length cap) (fun wr hwr => by simp only [execOp, (F4.eval 36 (by omega)).trans (show _ = Value.pointer (some ⟨rb, 4, none⟩) from by simp [upd, e0, ec, eo])]; simp [go_sem, hwr.1]) fun F5 => ?_
      refine lyp F5 rfl HCC rfl (by omega) (wanted_none rfl) (v := Value.agg #[.int .i64 cs, .int .i64 ci]) (fun wr hwr => by simp only [execOp, (F5.eval 4 (by omega)).trans (show _ = Value.pointer (some ⟨cb, 0, none⟩) from by simp [upd, e0, ec, eo])]; simp [go_sem, hwr.2.1.1, hwr.2.1.2]) fun F6 => ?_
      refine lyp F6 rfl HCC rfl (by omega) (wanted_none rfl) (v := Value.agg #[.int .i64 k, .string ⟨n.toArray⟩, .int .i64 a, .int .i64 b]) (fun wr hwr => by simp only [execOp, (F6.eval 5 (by omega)).trans (show _ = Value.pointer (some ⟨ob, 0, none⟩) from by simp [upd, e0, ec, eo])]; simp [go_sem, hwr.2.2.1, hwr.2.2.2.1, hwr.2.2.2.2.1, hwr.2.2.2.2.2]) fun F7 => ?_
      refine lyp F7 rfl HCC rfl (by omega) (wanted_none rfl) (v := Value.agg #[.int .i64 cs, .int .i64 ci, .int .i64 k, .string ⟨n.toArray⟩, .int .i64 a, .int .i64 b]) (fun wr hwr => by simp only [execOp, List.map_toArray, List.map_cons, List.map_nil, (F7.eval 38 (by omega)).trans (show _ = Value.agg #[.int .i64 cs, .int .i64 ci] from by simp [upd, e0, ec, eo]), (F7.eval 39 (by omega)).trans (show _ = Value.agg #[.int .i64 k, .string ⟨n.toArray⟩, .int .i64 a, .int .i64 b] from by simp [upd, e0, ec, eo])]; simp [go_sem]) fun F8 => ?_
      refine lep F8 rfl HCC rfl (by omega) (wanted_none rfl) (v := Value.slice (some ⟨wr.heap.size, 0, none⟩) 1 1) (w1 := (({ wr with drawn := wr.drawn + 1 } : World)).alloc (.cells #[.int .i64 cs, .int .i64 ci, .int .i64 k, .string ⟨n.toArray⟩, .int .i64 a, .int .i64 b] 108)) (by simp only [execOp, List.map_toArray, List.map_cons, List.map_nil, (F8.eval 40 (by omega)).trans (show _ = Value.agg #[.int .i64 cs, .int .i64 ci, .int .i64 k, .string ⟨n.toArray⟩, .int .i64 a, .int .i64 b] from by simp [upd, e0, ec, eo])]; simp [go_sem]) fun F9 => ?_
      obtain ⟨v5, w5, hrun, ho5, hg5⟩ := append_ask (w := ({ wr with drawn := wr.drawn + 1 } : World)) ((cs, ci), ⟨k, n, a, b⟩) (show World.ownsRow (({ wr with drawn := wr.drawn + 1 } : World)) B 108 6 (.slice ao WL.length cap) WL.length (flatA WL) from ownsRow_same HRO.out (fun _ _ => rfl)) HLN.out HTR.out.low 95
      obtain ⟨ao5, cap5, hv5, _⟩ := own_slice ho5
      subst hv5
      have nk : ∀ (b : Nat) (D : Array Value) (U : TypeId), Blk (({ wr with drawn := wr.drawn + 1 } : World)) b D U → U ≠ 108 → ¬ (Value.slice ao WL.length cap).ownBlock = some b := fun b D U hB hU e => by
        obtain ⟨cu, hcu⟩ := ownsRow_type HRO.out e
        exact Blk.ne_t (show Blk wr b D U from hB) (show Blk wr b cu 108 from hcu) hU rfl
      have hr5 := hg5.chg.blk hBr (nk _ _ _ hBr (by decide))
      have hc5 := hg5.chg.blk hBc (nk _ _ _ hBc (by decide))
      have ho5' := hg5.chg.blk hBo (nk _ _ _ hBo (by decide))
      have hz5 : w5.cell? ⟨rb, 4, none⟩ = some (.slice ao WL.length cap) := by
        have := hr5.cell 4
        rw [HWV.out] at this
        exact this
      have hf5 := hr5.frozen 4
      have HC5 : (fun wq => wq.cell? ⟨rb, 4, none⟩ = some (.slice ao WL.length cap) ∧ (wq.cell? ⟨cb, 0, none⟩ = some (.int .i64 cs) ∧ wq.cell? ⟨cb, 1, none⟩ = some (.int .i64 ci)) ∧ (wq.cell? ⟨ob, 0, none⟩ = some (.int .i64 k) ∧ wq.cell? ⟨ob, 1, none⟩ = some (.string ⟨n.toArray⟩) ∧ wq.cell? ⟨ob, 2, none⟩ = some (.int .i64 a) ∧ wq.cell? ⟨ob, 3, none⟩ = some (.int .i64 b))) w5 := ⟨hz5, ⟨hc5.cell 0, hc5.cell 1⟩, ho5'.cell 0, ho5'.cell 1, ho5'.cell 2, ho5'.cell 3⟩
      refine lep F9 rfl HC1 rfl (by omega) (wanted_none rfl) (v := Value.slice ao5 (WL.length + 1) cap5) (w1 := w5) (by simp only [execOp, resolve, invoke, builtin, List.map_toArray, List.map_cons, List.map_nil, (F9.eval 37 (by omega)).trans (show _ = Value.slice ao WL.length cap from by simp [upd, e0, ec, eo]), (F9.eval 41 (by omega)).trans (show _ = Value.slice (some ⟨wr.heap.size, 0, none⟩) 1 1 from by simp [upd, e0, ec, eo])]; simp only [Sem.run_bind, Sem.run_pure, Result.andThen_ok, show _ = _ from hrun]; try rfl) fun F10 => ?_
      refine lyp F10 rfl HC5 rfl (by omega) (wanted_none rfl) (v := Value.pointer (some ⟨rb, 0, none⟩)) (fun wr hwr => by simp only [execOp, (F10.eval 33 (by omega)).trans (show _ = Value.pointer (some ⟨rb, 0, none⟩) from by simp [upd, e0, ec, eo])]; simp [go_sem]) fun F11 => ?_
      refine lyp F11 rfl HC5 rfl (by omega) (wanted_none rfl) (v := Value.pointer (some ⟨rb, 4, none⟩)) (fun wr hwr => by simp only [execOp, (F11.eval 43 (by omega)).trans (show _ = Value.pointer (some ⟨rb, 0, none⟩) from by simp [upd, e0, ec, eo])]; simp [go_sem]) fun F12 => ?_
      refine lst rfl HC5 rfl (wanted_none rfl) (w1 := w5.setCell ⟨rb, 4, none⟩ (.slice ao5 (WL.length + 1) cap5)) (by simp only [execOp, (F12.eval 44 (by omega)).trans (show _ = Value.pointer (some ⟨rb, 4, none⟩) from by simp [upd, e0, ec, eo]), (F12.eval 42 (by omega)).trans (show _ = Value.slice ao5 (WL.length + 1) cap5 from by simp [upd, e0, ec, eo])]; simp [go_sem, hf5, hz5]) ?_
      refine ⟨fun h => by omega, ?_⟩
      clear F0 F1 F2 F3 F4 F5 F6 F7 F8 F9 F10 F11 F12 e0 ec eo HCC HC1 HC5 hBr hBc hBo hal hr5 hc5 ho5' hz5 hf5 nk hrun
      simp only [Act.put, List.setIfInBounds_toArray, List.set_cons_succ, List.set_cons_zero]

      have HPO : Hid (RPost B rb kl wl me rep per KL (WL ++ [((cs, ci), ⟨k, n, a, b⟩)]) w (w5.setCell ⟨rb, 4, none⟩ (.slice ao5 (WL.length + 1) cap5))) := show RPost B rb kl wl me rep per KL (WL ++ [((cs, ci), ⟨k, n, a, b⟩)]) w (w5.setCell ⟨rb, 4, none⟩ (.slice ao5 (WL.length + 1) cap5)) from RPost.ofW (WL' := WL ++ [((cs, ci), ⟨k, n, a, b⟩)]) HT.out (show Below w.heap.size w ({ wr with drawn := wr.drawn + 1 } : World) from HBE.out.drew) (by rw [HWV.out]; exact hg5) (by rw [List.length_append]; exact ho5)
      clear ho5 hg5
      go_wp2_with fail
      go_ret
      have hnx : askNext WL (cs, ci) ⟨k, n, a, b⟩ = WL ++ [((cs, ci), ⟨k, n, a, b⟩)] := by unfold askNext; rw [HCD.out, if_pos rfl]
      rw [HCD.out, hnx]
      exact ⟨rfl, HPO.out⟩
end Go.Proofs.Ytgjibihhchojoaa
