import Derived.Test.YtgjibihhchojoaaR0
namespace Go.Proofs.Ytgjibihhchojoaa
open Go.RowKit Go.PlainAid
set_option linter.unusedVariables false
set_option linter.unusedSimpArgs false
theorem wpList_appS {w : World} {ops : Array Oper} {rest : List Oper} {o : Oper} {a : Act} {Q : Exit → Act → World → Prop} (hgd : o.guard = none) (s x : Operand)
    (ho : o.op = .call { callee := .builtin .append, args := #[s, x], argTypes := #[51, 51] })
    (base k : Nat) (v : Value) (es : List (List UInt8)) (hs : a.eval s = v) (hown : w.ownsRow base 9 1 v k (flatS es)) (n : List UInt8) {g : Nat} (hx : a.eval x = .slice (some ⟨g, 0, none⟩) 1 1) (hgs : g = w.heap.size) (hlen : k ≤ 100000) (hbase : base ≤ w.heap.size)
    (h : ∀ v' w', w'.ownsRow base 9 1 v' (k + 1) (flatS (es ++ [n])) → Grew w w' v v' → wpList Try.prog ops Q rest (a.put o.dst v') w') :
    wpList Try.prog ops Q (o :: rest) a (w.alloc (.cells #[.string ⟨n.toArray⟩] 9)) := by
  subst hgs
  refine wpList_app 51 9 (.string ⟨#[]⟩) 1 16 Try.underlying51 info9 rfl (by decide) (by decide) hgd s x ho base k v (flatS es) hs (hown.alloc _) ⟨w.heap.size, 0, none⟩ 1 1 [Str n] hx rfl (fun j u hu => ?_) (fun u hu => by simp at hu; subst hu; rfl) (by omega) (by rw [World.size_alloc]; omega) ?_
  · rw [addr_add, Nat.zero_add]
    have hB : Blk (w.alloc (.cells #[.string ⟨n.toArray⟩] 9)) w.heap.size #[.string ⟨n.toArray⟩] 9 := heap_alloc_new w _
    rw [hB.cell j]
    simpa [Str] using hu
  · intro v' w' h1 h2 _
    refine h v' w' ?_ h2.ofAlloc
    rw [flatS_append]
    exact h1
def rmc (me rep per : Int) (KL : List (List UInt8)) (n : List UInt8) : Int := if nameB n = false then 1 else if homeN n rep ≠ me then 3 else if n ∈ KL then 101 else if per ≤ (cntK rep me KL : Int) then 102 else 0
def rmn (me rep per : Int) (KL : List (List UInt8)) (n : List UInt8) : List (List UInt8) := if rmc me rep per KL n = 0 then KL ++ [n] else KL
def rlb (me rep per : Int) (KL : List (List UInt8)) (n : List UInt8) : Bool := nameB n && !decide (n ∈ KL) && !decide (homeN n rep = me) && decide ((cntK rep (homeN n rep) KL : Int) < per)
def rln (me rep per : Int) (KL : List (List UInt8)) (n : List UInt8) : List (List UInt8) := if rlb me rep per KL n = true then KL ++ [n] else KL
/-- What a call of the reference leaves: the table as it is then; which blocks may have changed. -/
def RPost (B rb : Nat) (kl wl : Value) (me rep per : Int) (KL : List (List UInt8)) (WL : List ((Int × Int) × OpA)) (w w' : World) : Prop := Chg (RA rb kl wl) w w' ∧ ∃ kl' wl', RT B rb kl' wl' me rep per KL WL w' ∧ (∀ b, RA rb kl' wl' b → RA rb kl wl b ∨ w.heap.size ≤ b)
theorem RPost.same {B rb : Nat} {kl wl : Value} {me rep per : Int} {KL : List (List UInt8)} {WL : List ((Int × Int) × OpA)} {w w' : World} (h : RT B rb kl wl me rep per KL WL w) (hb : Below w.heap.size w w') : RPost B rb kl wl me rep per KL WL w w' := ⟨Chg.ofBelow _ hb, kl, wl, h.more hb, fun b e => Or.inl e⟩
theorem RPost.ofK {B rb : Nat} {kl wl kl' : Value} {me rep per : Int} {KL KL' : List (List UInt8)} {WL : List ((Int × Int) × OpA)} {w wx w5 : World} (h : RT B rb kl wl me rep per KL WL w) (hb : Below w.heap.size w wx) (hg : Grew wx w5 kl kl') (ho : w5.ownsRow B 9 1 kl' KL'.length (flatS KL')) : RPost B rb kl wl me rep per KL' WL w (w5.setCell ⟨rb, 3, none⟩ kl') := by
  obtain ⟨h1, h2⟩ := (h.more hb).putK hg ho
  refine ⟨(Chg.ofBelow (RA rb kl wl) hb).trans h2 (fun _ _ e => e), kl', wl, h1, fun b e => ?_⟩
  rcases e with e | e | e
  · exact Or.inl (Or.inl e)
  · rcases hg.at' b e with h | h
    · exact Or.inl (Or.inr (Or.inl h))
    · exact Or.inr (Nat.le_trans hb.size h)
  · exact Or.inl (Or.inr (Or.inr e))
theorem RPost.ofW {B rb : Nat} {kl wl wl' : Value} {me rep per : Int} {KL : List (List UInt8)} {WL WL' : List ((Int × Int) × OpA)} {w wx w5 : World} (h : RT B rb kl wl me rep per KL WL w) (hb : Below w.heap.size w wx) (hg : Grew wx w5 wl wl') (ho : w5.ownsRow B 108 6 wl' WL'.length (flatA WL')) : RPost B rb kl wl me rep per KL WL' w (w5.setCell ⟨rb, 4, none⟩ wl') := by
  obtain ⟨h1, h2⟩ := (h.more hb).putW hg ho
  refine ⟨(Chg.ofBelow (RA rb kl wl) hb).trans h2 (fun _ _ e => e), kl, wl', h1, fun b e => ?_⟩
  rcases e with e | e | e
  · exact Or.inl (Or.inl e)
  · exact Or.inl (Or.inr (Or.inl e))
  · rcases hg.at' b e with h | h
    · exact Or.inl (Or.inr (Or.inr h))
    · exact Or.inr (Nat.le_trans hb.size h)
set_option maxRecDepth 100000 in
set_option maxHeartbeats 1600000 in
theorem rmake_any {B rb : Nat} {kl wl : Value} {me rep per : Int} {KL : List (List UInt8)} {WL : List ((Int × Int) × OpA)} (n : List UInt8) (w : World) (hT : RT B rb kl wl me rep per KL WL w) (hL : KL.length ≤ 100000) (hnl : ∀ x ∈ KL, x.length ≤ 140737488355328) (hl : n.length ≤ 140737488355328) (hrep : -9223372036854775808 ≤ rep ∧ rep ≤ 9223372036854775807) :
    Calls Try.prog 54 #[.pointer (some ⟨rb, 0, none⟩), .string ⟨n.toArray⟩] w fun q w' => q = .returned (.int .i64 (rmc me rep per KL n)) ∧ RPost B rb kl wl me rep per (rmn me rep per KL n) WL w w' := by
  have HG : Hid (∀ w, _) := fun w => rgood_any n w (by omega)
  have HHO : Hid (∀ w, _) := fun w => rhome_any n rep w (by omega) hrep
  have HK : Hid _ := rknows_any n w hT hL
  have HOF : Hid (∀ w' : World, RT B rb kl wl me rep per KL WL w' → _) := fun w' h => of_any me w' h hL hnl hrep
  have HT : Hid _ := hT
  unfold rmn
  obtain ⟨kn, hkn⟩ : ∃ kn, kn = decide (n ∈ KL) := ⟨_, rfl⟩
  rw [← hkn] at HK
  by_cases g1 : nameB n = false
  · have hc : rmc me rep per KL n = 1 := by unfold rmc; rw [if_pos g1]
    rw [hc, if_neg (by decide)]
    clear hc hT hL hnl hrep
    go_enter Try.func54, Try.ntmps54
    go_wp2_with fail
    refine Calls.mono (HG.out _) ?_
    rintro e w' ⟨rfl, hw'⟩
    replace hw' := hw'.symm
    subst hw'
    go_wp2_with fail
    refine Calls.mono HK.out ?_
    rintro e w' ⟨rfl, hw'⟩
    replace hw' := hw'.symm
    subst hw'
    try rw [g1]
    go_wp2_with fail
    go_ret
    exact ⟨rfl, RPost.same HT.out (Below.refl _ _)⟩
  have g1t : nameB n = true := by simpa using g1
  by_cases g2 : homeN n rep ≠ me
  · have hc : rmc me rep per KL n = 3 := by unfold rmc; rw [if_neg g1, if_pos g2]
    rw [hc, if_neg (by decide)]
    have HP : Hid (¬ homeN n rep = me) := g2
    clear hc hT hL hnl hrep g1 g2
    go_enter Try.func54, Try.ntmps54
    go_wp2_with fail
    refine Calls.mono (HG.out _) ?_
    rintro e w' ⟨rfl, hw'⟩
    replace hw' := hw'.symm
    subst hw'
    go_wp2_with fail
    refine Calls.mono HK.out ?_
    rintro e w' ⟨rfl, hw'⟩
    replace hw' := hw'.symm
    subst hw'
    try rw [g1t]
    go_wp2_with fail
    rename_i K hK
    try rw [show ∀ a : Act, a.put none undef = a from fun _ => rfl]
    refine wp_region_mix (fun wq => Below w.heap.size w wq) (fun i => i == 5 || i == 99) 99 (by kernel_rfl) rfl (by kernel_rfl) (by kernel_rfl) (by kernel_rfl) ?_
    refine withFrP (N := 51) rfl ?_
    intro f0 F0 hff
    have e0 : f0 0 = Value.pointer (some ⟨rb, 0, none⟩) := hff 0
    have e1 : f0 1 = Value.string ⟨n.toArray⟩ := hff 1
    clear hff
    have HCC : (fun wq => Below w.heap.size w wq) (({ w with drawn := w.drawn + 1 } : World)) := (Below.drew (Below.refl w.heap.size w))
    have V0 : ∀ wr, Below w.heap.size w wr → wr.cell? ⟨rb, 0, none⟩ = some (.int .i64 me) := fun wr hw => (hw.cell (p := ⟨rb, 0, none⟩) (World.block_lt_of_cell? w _ HT.out.c0)).trans HT.out.c0
    have V1 : ∀ wr, Below w.heap.size w wr → wr.cell? ⟨rb, 1, none⟩ = some (.int .i64 rep) := fun wr hw => (hw.cell (p := ⟨rb, 1, none⟩) (World.block_lt_of_cell? w _ HT.out.c1)).trans HT.out.c1
    refine lyp F0 rfl HCC rfl (by omega) (wanted_none rfl) (v := Value.string ⟨n.toArray⟩) (fun wr hwr => by simp only [execOp, (F0.eval 1 (by omega)).trans (show _ = Value.string ⟨n.toArray⟩ from by simp [upd, e0, e1])]; first | rfl | simp [go_sem]) fun F1 => ?_
    refine lyp F1 rfl HCC rfl (by omega) (wanted_none rfl) (v := Value.pointer (some ⟨rb, 0, none⟩)) (fun wr hwr => by simp only [execOp, (F1.eval 0 (by omega)).trans (show _ = Value.pointer (some ⟨rb, 0, none⟩) from by simp [upd, e0, e1])]; first | rfl | simp [go_sem]) fun F2 => ?_
    refine lyp F2 rfl HCC rfl (by omega) (wanted_none rfl) (v := Value.pointer (some ⟨rb, 0, none⟩)) (fun wr hwr => by simp only [execOp, (F2.eval 17 (by omega)).trans (show _ = Value.pointer (some ⟨rb, 0, none⟩) from by simp [upd, e0, e1])]; simp [go_sem]) fun F3 => ?_
    refine lyp F3 rfl HCC rfl (by omega) (wanted_none rfl) (v := Value.pointer (some ⟨rb, 1, none⟩)) (fun wr hwr => by simp only [execOp, (F3.eval 18 (by omega)).trans (show _ = Value.pointer (some ⟨rb, 0, none⟩) from by simp [upd, e0, e1])]; simp [go_sem]) fun F4 => ?_
    refine lyp F4 rfl HCC rfl (by omega) (wanted_none rfl) (v := Value.int .i64 rep) (fun wr hwr => by simp only [execOp, (F4.eval 19 (by omega)).trans (show _ = Value.pointer (some ⟨rb, 1, none⟩) from by simp [upd, e0, e1])]; simp [go_sem, V1 wr hwr]) fun F5 => ?_
    refine lcp F5 rfl HCC rfl (by omega) (wanted_none rfl) (g := 13) (args := #[Value.string ⟨n.toArray⟩, Value.int .i64 rep]) (by simp only [execOp, resolve, invoke, List.map_toArray, List.map_cons, List.map_nil, (F5.eval 16 (by omega)).trans (show _ = Value.string ⟨n.toArray⟩ from by simp [upd, e0, e1]), (F5.eval 20 (by omega)).trans (show _ = Value.int .i64 rep from by simp [upd, e0, e1])]; simp [go_sem, Act.eval]) (HHO.out (({ w with drawn := w.drawn + 1 } : World))) ?_
    rintro e w2 ⟨rfl, hb2⟩
    refine ⟨_, rfl, fun F6 => ?_⟩
    have HC2 : (fun wq => Below w.heap.size w wq) w2 := (Below.drew (Below.refl w.heap.size w)).trans hb2
    refine lyp F6 rfl HC2 rfl (by omega) (wanted_none rfl) (v := Value.pointer (some ⟨rb, 0, none⟩)) (fun wr hwr => by simp only [execOp, (F6.eval 0 (by omega)).trans (show _ = Value.pointer (some ⟨rb, 0, none⟩) from by simp [upd, e0, e1])]; first | rfl | simp [go_sem]) fun F7 => ?_
    refine lyp F7 rfl HC2 rfl (by omega) (wanted_none rfl) (v := Value.pointer (some ⟨rb, 0, none⟩)) (fun wr hwr => by simp only [execOp, (F7.eval 22 (by omega)).trans (show _ = Value.pointer (some ⟨rb, 0, none⟩) from by simp [upd, e0, e1])]; simp [go_sem]) fun F8 => ?_
    refine lyp F8 rfl HC2 rfl (by omega) (wanted_none rfl) (v := Value.pointer (some ⟨rb, 0, none⟩)) (fun wr hwr => by simp only [execOp, (F8.eval 23 (by omega)).trans (show _ = Value.pointer (some ⟨rb, 0, none⟩) from by simp [upd, e0, e1])]; simp [go_sem]) fun F9 => ?_
    refine lyp F9 rfl HC2 rfl (by omega) (wanted_none rfl) (v := Value.int .i64 me) (fun wr hwr => by simp only [execOp, (F9.eval 24 (by omega)).trans (show _ = Value.pointer (some ⟨rb, 0, none⟩) from by simp [upd, e0, e1])]; simp [go_sem, V0 wr hwr]) fun F10 => ?_
    refine lyp F10 rfl HC2 rfl (by omega) (wanted_none rfl) (v := Value.bool true) (fun wr hwr => by simp only [execOp, (F10.eval 21 (by omega)).trans (show _ = Value.int .i64 (homeN n rep) from by simp [upd, e0, e1]), (F10.eval 25 (by omega)).trans (show _ = Value.int .i64 me from by simp [upd, e0, e1])]; simp [go_sem, Act.eval, HP.out]) fun F11 => ?_
    refine lyp F11 rfl HC2 rfl (by omega) (wanted_none rfl) (v := Value.bool true) (fun wr hwr => by simp only [execOp, (F11.eval 26 (by omega)).trans (show _ = Value.bool true from by simp [upd, e0, e1])]; first | rfl | simp [go_sem]) fun F12 => ?_
    refine ⟨fun _ => HC2, ?_⟩
    refine hK _ _ ?_
    clear F0 F1 F2 F3 F4 F5 F6 F7 F8 F9 F10 F11 F12 e0 e1 HCC V0 V1
    simp only [Act.put, List.setIfInBounds_toArray, List.set_cons_succ, List.set_cons_zero]

    have HB2 : Hid _ := HC2
    clear HC2 hb2
    go_wp2_with fail
    go_ret
    exact ⟨rfl, RPost.same HT.out HB2.out⟩
  have g2e : homeN n rep = me := by simpa using g2
  have HP : Hid (homeN n rep = me) := g2e
  by_cases g3 : n ∈ KL
  · have hc : rmc me rep per KL n = 101 := by unfold rmc; rw [if_neg g1, if_neg g2, if_pos g3]
    rw [hc, if_neg (by decide)]
    have hk1 : kn = true := by rw [hkn]; simpa using g3
    subst hk1
    clear hc hT hL hnl hrep g1 g2 g2e g3 hkn
    go_enter Try.func54, Try.ntmps54
    go_wp2_with fail
    refine Calls.mono (HG.out _) ?_
    rintro e w' ⟨rfl, hw'⟩
    replace hw' := hw'.symm
    subst hw'
    go_wp2_with fail
    refine Calls.mono HK.out ?_
    rintro e w' ⟨rfl, hw'⟩
    replace hw' := hw'.symm
    subst hw'
    try rw [g1t]
    go_wp2_with fail
    rename_i K hK
    try rw [show ∀ a : Act, a.put none undef = a from fun _ => rfl]
    refine wp_region_mix (fun wq => Below w.heap.size w wq) (fun i => i == 5 || i == 99) 99 (by kernel_rfl) rfl (by kernel_rfl) (by kernel_rfl) (by kernel_rfl) ?_
    refine withFrP (N := 51) rfl ?_
    intro f0 F0 hff
    have e0 : f0 0 = Value.pointer (some ⟨rb, 0, none⟩) := hff 0
    have e1 : f0 1 = Value.string ⟨n.toArray⟩ := hff 1
    clear hff
    have HCC : (fun wq => Below w.heap.size w wq) (({ w with drawn := w.drawn + 1 } : World)) := (Below.drew (Below.refl w.heap.size w))
    have V0 : ∀ wr, Below w.heap.size w wr → wr.cell? ⟨rb, 0, none⟩ = some (.int .i64 me) := fun wr hw => (hw.cell (p := ⟨rb, 0, none⟩) (World.block_lt_of_cell? w _ HT.out.c0)).trans HT.out.c0
    have V1 : ∀ wr, Below w.heap.size w wr → wr.cell? ⟨rb, 1, none⟩ = some (.int .i64 rep) := fun wr hw => (hw.cell (p := ⟨rb, 1, none⟩) (World.block_lt_of_cell? w _ HT.out.c1)).trans HT.out.c1
    refine lyp F0 rfl HCC rfl (by omega) (wanted_none rfl) (v := Value.string ⟨n.toArray⟩) (fun wr hwr => by simp only [execOp, (F0.eval 1 (by omega)).trans (show _ = Value.string ⟨n.toArray⟩ from by simp [upd, e0, e1])]; first | rfl | simp [go_sem]) fun F1 => ?_
    refine lyp F1 rfl HCC rfl (by omega) (wanted_none rfl) (v := Value.pointer (some ⟨rb, 0, none⟩)) (fun wr hwr => by simp only [execOp, (F1.eval 0 (by omega)).trans (show _ = Value.pointer (some ⟨rb, 0, none⟩) from by simp [upd, e0, e1])]; first | rfl | simp [go_sem]) fun F2 => ?_
    refine lyp F2 rfl HCC rfl (by omega) (wanted_none rfl) (v := Value.pointer (some ⟨rb, 0, none⟩)) (fun wr hwr => by simp only [execOp, (F2.eval 17 (by omega)).trans (show _ = Value.pointer (some ⟨rb, 0, none⟩) from by simp [upd, e0, e1])]; simp [go_sem]) fun F3 => ?_
    refine lyp F3 rfl HCC rfl (by omega) (wanted_none rfl) (v := Value.pointer (some ⟨rb, 1, none⟩)) (fun wr hwr => by simp only [execOp, (F3.eval 18 (by omega)).trans (show _ = Value.pointer (some ⟨rb, 0, none⟩) from by simp [upd, e0, e1])]; simp [go_sem]) fun F4 => ?_
    refine lyp F4 rfl HCC rfl (by omega) (wanted_none rfl) (v := Value.int .i64 rep) (fun wr hwr => by simp only [execOp, (F4.eval 19 (by omega)).trans (show _ = Value.pointer (some ⟨rb, 1, none⟩) from by simp [upd, e0, e1])]; simp [go_sem, V1 wr hwr]) fun F5 => ?_
    refine lcp F5 rfl HCC rfl (by omega) (wanted_none rfl) (g := 13) (args := #[Value.string ⟨n.toArray⟩, Value.int .i64 rep]) (by simp only [execOp, resolve, invoke, List.map_toArray, List.map_cons, List.map_nil, (F5.eval 16 (by omega)).trans (show _ = Value.string ⟨n.toArray⟩ from by simp [upd, e0, e1]), (F5.eval 20 (by omega)).trans (show _ = Value.int .i64 rep from by simp [upd, e0, e1])]; simp [go_sem, Act.eval]) (HHO.out (({ w with drawn := w.drawn + 1 } : World))) ?_
    rintro e w2 ⟨rfl, hb2⟩
    refine ⟨_, rfl, fun F6 => ?_⟩
    have HC2 : (fun wq => Below w.heap.size w wq) w2 := (Below.drew (Below.refl w.heap.size w)).trans hb2
    refine lyp F6 rfl HC2 rfl (by omega) (wanted_none rfl) (v := Value.pointer (some ⟨rb, 0, none⟩)) (fun wr hwr => by simp only [execOp, (F6.eval 0 (by omega)).trans (show _ = Value.pointer (some ⟨rb, 0, none⟩) from by simp [upd, e0, e1])]; first | rfl | simp [go_sem]) fun F7 => ?_
    refine lyp F7 rfl HC2 rfl (by omega) (wanted_none rfl) (v := Value.pointer (some ⟨rb, 0, none⟩)) (fun wr hwr => by simp only [execOp, (F7.eval 22 (by omega)).trans (show _ = Value.pointer (some ⟨rb, 0, none⟩) from by simp [upd, e0, e1])]; simp [go_sem]) fun F8 => ?_
    refine lyp F8 rfl HC2 rfl (by omega) (wanted_none rfl) (v := Value.pointer (some ⟨rb, 0, none⟩)) (fun wr hwr => by simp only [execOp, (F8.eval 23 (by omega)).trans (show _ = Value.pointer (some ⟨rb, 0, none⟩) from by simp [upd, e0, e1])]; simp [go_sem]) fun F9 => ?_
    refine lyp F9 rfl HC2 rfl (by omega) (wanted_none rfl) (v := Value.int .i64 me) (fun wr hwr => by simp only [execOp, (F9.eval 24 (by omega)).trans (show _ = Value.pointer (some ⟨rb, 0, none⟩) from by simp [upd, e0, e1])]; simp [go_sem, V0 wr hwr]) fun F10 => ?_
    refine lyp F10 rfl HC2 rfl (by omega) (wanted_none rfl) (v := Value.bool false) (fun wr hwr => by simp only [execOp, (F10.eval 21 (by omega)).trans (show _ = Value.int .i64 (homeN n rep) from by simp [upd, e0, e1]), (F10.eval 25 (by omega)).trans (show _ = Value.int .i64 me from by simp [upd, e0, e1])]; simp [go_sem, Act.eval, HP.out]) fun F11 => ?_
    refine lyp F11 rfl HC2 rfl (by omega) (wanted_none rfl) (v := Value.bool false) (fun wr hwr => by simp only [execOp, (F11.eval 26 (by omega)).trans (show _ = Value.bool false from by simp [upd, e0, e1])]; first | rfl | simp [go_sem]) fun F12 => ?_
    refine ⟨fun _ => HC2, ?_⟩
    refine hK _ _ ?_
    clear F0 F1 F2 F3 F4 F5 F6 F7 F8 F9 F10 F11 F12 e0 e1 HCC V0 V1
    simp only [Act.put, List.setIfInBounds_toArray, List.set_cons_succ, List.set_cons_zero]

    have HB2 : Hid _ := HC2
    clear HC2 hb2
    go_wp2_with fail
    go_ret
    exact ⟨rfl, RPost.same HT.out HB2.out⟩
  have hk1 : kn = false := by rw [hkn]; simpa using g3
  subst hk1
  by_cases g4 : per ≤ (cntK rep me KL : Int)
  · have hc : rmc me rep per KL n = 102 := by unfold rmc; rw [if_neg g1, if_neg g2, if_neg g3, if_pos g4]
    rw [hc, if_neg (by decide)]
    have HQ : Hid (per ≤ (cntK rep me KL : Int)) := g4
    clear hc hT hL hnl hrep g1 g2 g2e g3 g4 hkn
    go_enter Try.func54, Try.ntmps54
    go_wp2_with fail
    refine Calls.mono (HG.out _) ?_
    rintro e w' ⟨rfl, hw'⟩
    replace hw' := hw'.symm
    subst hw'
    go_wp2_with fail
    refine Calls.mono HK.out ?_
    rintro e w' ⟨rfl, hw'⟩
    replace hw' := hw'.symm
    subst hw'
    try rw [g1t]
    go_wp2_with fail
    rename_i K hK
    try rw [show ∀ a : Act, a.put none undef = a from fun _ => rfl]
    refine wp_region_mix (fun wq => Below w.heap.size w wq) (fun i => i == 5 || i == 99) 99 (by kernel_rfl) rfl (by kernel_rfl) (by kernel_rfl) (by kernel_rfl) ?_
    refine withFrP (N := 51) rfl ?_
    intro f0 F0 hff
    have e0 : f0 0 = Value.pointer (some ⟨rb, 0, none⟩) := hff 0
    have e1 : f0 1 = Value.string ⟨n.toArray⟩ := hff 1
    clear hff
    have HCC : (fun wq => Below w.heap.size w wq) (({ w with drawn := w.drawn + 1 } : World)) := (Below.drew (Below.refl w.heap.size w))
    have V0 : ∀ wr, Below w.heap.size w wr → wr.cell? ⟨rb, 0, none⟩ = some (.int .i64 me) := fun wr hw => (hw.cell (p := ⟨rb, 0, none⟩) (World.block_lt_of_cell? w _ HT.out.c0)).trans HT.out.c0
    have V1 : ∀ wr, Below w.heap.size w wr → wr.cell? ⟨rb, 1, none⟩ = some (.int .i64 rep) := fun wr hw => (hw.cell (p := ⟨rb, 1, none⟩) (World.block_lt_of_cell? w _ HT.out.c1)).trans HT.out.c1
    refine lyp F0 rfl HCC rfl (by omega) (wanted_none rfl) (v := Value.string ⟨n.toArray⟩) (fun wr hwr => by simp only [execOp, (F0.eval 1 (by omega)).trans (show _ = Value.string ⟨n.toArray⟩ from by simp [upd, e0, e1])]; first | rfl | simp [go_sem]) fun F1 => ?_
    refine lyp F1 rfl HCC rfl (by omega) (wanted_none rfl) (v := Value.pointer (some ⟨rb, 0, none⟩)) (fun wr hwr => by simp only [execOp, (F1.eval 0 (by omega)).trans (show _ = Value.pointer (some ⟨rb, 0, none⟩) from by simp [upd, e0, e1])]; first | rfl | simp [go_sem]) fun F2 => ?_
    refine lyp F2 rfl HCC rfl (by omega) (wanted_none rfl) (v := Value.pointer (some ⟨rb, 0, none⟩)) (fun wr hwr => by simp only [execOp, (F2.eval 17 (by omega)).trans (show _ = Value.pointer (some ⟨rb, 0, none⟩) from by simp [upd, e0, e1])]; simp [go_sem]) fun F3 => ?_
    refine lyp F3 rfl HCC rfl (by omega) (wanted_none rfl) (v := Value.pointer (some ⟨rb, 1, none⟩)) (fun wr hwr => by simp only [execOp, (F3.eval 18 (by omega)).trans (show _ = Value.pointer (some ⟨rb, 0, none⟩) from by simp [upd, e0, e1])]; simp [go_sem]) fun F4 => ?_
    refine lyp F4 rfl HCC rfl (by omega) (wanted_none rfl) (v := Value.int .i64 rep) (fun wr hwr => by simp only [execOp, (F4.eval 19 (by omega)).trans (show _ = Value.pointer (some ⟨rb, 1, none⟩) from by simp [upd, e0, e1])]; simp [go_sem, V1 wr hwr]) fun F5 => ?_
    refine lcp F5 rfl HCC rfl (by omega) (wanted_none rfl) (g := 13) (args := #[Value.string ⟨n.toArray⟩, Value.int .i64 rep]) (by simp only [execOp, resolve, invoke, List.map_toArray, List.map_cons, List.map_nil, (F5.eval 16 (by omega)).trans (show _ = Value.string ⟨n.toArray⟩ from by simp [upd, e0, e1]), (F5.eval 20 (by omega)).trans (show _ = Value.int .i64 rep from by simp [upd, e0, e1])]; simp [go_sem, Act.eval]) (HHO.out (({ w with drawn := w.drawn + 1 } : World))) ?_
    rintro e w2 ⟨rfl, hb2⟩
    refine ⟨_, rfl, fun F6 => ?_⟩
    have HC2 : (fun wq => Below w.heap.size w wq) w2 := (Below.drew (Below.refl w.heap.size w)).trans hb2
    refine lyp F6 rfl HC2 rfl (by omega) (wanted_none rfl) (v := Value.pointer (some ⟨rb, 0, none⟩)) (fun wr hwr => by simp only [execOp, (F6.eval 0 (by omega)).trans (show _ = Value.pointer (some ⟨rb, 0, none⟩) from by simp [upd, e0, e1])]; first | rfl | simp [go_sem]) fun F7 => ?_
    refine lyp F7 rfl HC2 rfl (by omega) (wanted_none rfl) (v := Value.pointer (some ⟨rb, 0, none⟩)) (fun wr hwr => by simp only [execOp, (F7.eval 22 (by omega)).trans (show _ = Value.pointer (some ⟨rb, 0, none⟩) from by simp [upd, e0, e1])]; simp [go_sem]) fun F8 => ?_
    refine lyp F8 rfl HC2 rfl (by omega) (wanted_none rfl) (v := Value.pointer (some ⟨rb, 0, none⟩)) (fun wr hwr => by simp only [execOp, (F8.eval 23 (by omega)).trans (show _ = Value.pointer (some ⟨rb, 0, none⟩) from by simp [upd, e0, e1])]; simp [go_sem]) fun F9 => ?_
    refine lyp F9 rfl HC2 rfl (by omega) (wanted_none rfl) (v := Value.int .i64 me) (fun wr hwr => by simp only [execOp, (F9.eval 24 (by omega)).trans (show _ = Value.pointer (some ⟨rb, 0, none⟩) from by simp [upd, e0, e1])]; simp [go_sem, V0 wr hwr]) fun F10 => ?_
    refine lyp F10 rfl HC2 rfl (by omega) (wanted_none rfl) (v := Value.bool false) (fun wr hwr => by simp only [execOp, (F10.eval 21 (by omega)).trans (show _ = Value.int .i64 (homeN n rep) from by simp [upd, e0, e1]), (F10.eval 25 (by omega)).trans (show _ = Value.int .i64 me from by simp [upd, e0, e1])]; simp [go_sem, Act.eval, HP.out]) fun F11 => ?_
    refine lyp F11 rfl HC2 rfl (by omega) (wanted_none rfl) (v := Value.bool false) (fun wr hwr => by simp only [execOp, (F11.eval 26 (by omega)).trans (show _ = Value.bool false from by simp [upd, e0, e1])]; first | rfl | simp [go_sem]) fun F12 => ?_
    refine ⟨fun _ => HC2, ?_⟩
    refine hK _ _ ?_
    clear F0 F1 F2 F3 F4 F5 F6 F7 F8 F9 F10 F11 F12 e0 e1 HCC V0 V1
    simp only [Act.put, List.setIfInBounds_toArray, List.set_cons_succ, List.set_cons_zero]

    have HB2 : Hid _ := HC2
    have HT2 : Hid _ := HT.out.more HC2
    clear HC2 hb2
    go_wp2_with fail
    rename_i K hK
    try rw [show ∀ a : Act, a.put none undef = a from fun _ => rfl]
    refine wp_region_mix (fun wq => Below w2.heap.size w2 wq) (fun i => i == 5 || i == 99) 99 (by kernel_rfl) rfl (by kernel_rfl) (by kernel_rfl) (by kernel_rfl) ?_
    refine withFrP (N := 51) rfl ?_
    intro f0 F0 hff
    have f0x : f0 0 = Value.pointer (some ⟨rb, 0, none⟩) := hff 0
    have f1x : f0 1 = Value.string ⟨n.toArray⟩ := hff 1
    clear hff
    have HCC : (fun wq => Below w2.heap.size w2 wq) (({ w2 with drawn := w2.drawn + 1 } : World)) := (Below.drew (Below.refl w2.heap.size w2))
    have V0 : ∀ wr, Below w2.heap.size w2 wr → wr.cell? ⟨rb, 0, none⟩ = some (.int .i64 me) := fun wr hw => (hw.cell (p := ⟨rb, 0, none⟩) (World.block_lt_of_cell? w2 _ HT2.out.c0)).trans HT2.out.c0
    have V2 : ∀ wr, Below w2.heap.size w2 wr → wr.cell? ⟨rb, 2, none⟩ = some (.int .i64 per) := fun wr hw => (hw.cell (p := ⟨rb, 2, none⟩) (World.block_lt_of_cell? w2 _ HT2.out.c2)).trans HT2.out.c2
    refine lyp F0 rfl HCC rfl (by omega) (wanted_none rfl) (v := Value.pointer (some ⟨rb, 0, none⟩)) (fun wr hwr => by simp only [execOp, (F0.eval 0 (by omega)).trans (show _ = Value.pointer (some ⟨rb, 0, none⟩) from by simp [upd, f0x, f1x])]; first | rfl | simp [go_sem]) fun Fy1 => ?_
    refine lyp Fy1 rfl HCC rfl (by omega) (wanted_none rfl) (v := Value.pointer (some ⟨rb, 0, none⟩)) (fun wr hwr => by simp only [execOp, (Fy1.eval 0 (by omega)).trans (show _ = Value.pointer (some ⟨rb, 0, none⟩) from by simp [upd, f0x, f1x])]; first | rfl | simp [go_sem]) fun Fy2 => ?_
    refine lyp Fy2 rfl HCC rfl (by omega) (wanted_none rfl) (v := Value.pointer (some ⟨rb, 0, none⟩)) (fun wr hwr => by simp only [execOp, (Fy2.eval 31 (by omega)).trans (show _ = Value.pointer (some ⟨rb, 0, none⟩) from by simp [upd, f0x, f1x])]; simp [go_sem]) fun Fy3 => ?_
    refine lyp Fy3 rfl HCC rfl (by omega) (wanted_none rfl) (v := Value.pointer (some ⟨rb, 0, none⟩)) (fun wr hwr => by simp only [execOp, (Fy3.eval 32 (by omega)).trans (show _ = Value.pointer (some ⟨rb, 0, none⟩) from by simp [upd, f0x, f1x])]; simp [go_sem]) fun Fy4 => ?_
    refine lyp Fy4 rfl HCC rfl (by omega) (wanted_none rfl) (v := Value.int .i64 me) (fun wr hwr => by simp only [execOp, (Fy4.eval 33 (by omega)).trans (show _ = Value.pointer (some ⟨rb, 0, none⟩) from by simp [upd, f0x, f1x])]; simp [go_sem, V0 wr hwr]) fun Fy5 => ?_
    refine lcp Fy5 rfl HCC rfl (by omega) (wanted_none rfl) (g := 66) (args := #[Value.pointer (some ⟨rb, 0, none⟩), Value.int .i64 me]) (by simp only [execOp, resolve, invoke, List.map_toArray, List.map_cons, List.map_nil, (Fy5.eval 30 (by omega)).trans (show _ = Value.pointer (some ⟨rb, 0, none⟩) from by simp [upd, f0x, f1x]), (Fy5.eval 34 (by omega)).trans (show _ = Value.int .i64 me from by simp [upd, f0x, f1x])]; simp [go_sem, Act.eval]) (HOF.out (({ w2 with drawn := w2.drawn + 1 } : World)) (HT2.out.more HCC)) ?_
    rintro e w3 ⟨rfl, hb3⟩
    refine ⟨_, rfl, fun Fy6 => ?_⟩
    have HC3 : (fun wq => Below w2.heap.size w2 wq) w3 := (Below.drew (Below.refl w2.heap.size w2)).trans hb3
    refine lyp Fy6 rfl HC3 rfl (by omega) (wanted_none rfl) (v := Value.pointer (some ⟨rb, 0, none⟩)) (fun wr hwr => by simp only [execOp, (Fy6.eval 0 (by omega)).trans (show _ = Value.pointer (some ⟨rb, 0, none⟩) from by simp [upd, f0x, f1x])]; first | rfl | simp [go_sem]) fun Fy7 => ?_
    refine lyp Fy7 rfl HC3 rfl (by omega) (wanted_none rfl) (v := Value.pointer (some ⟨rb, 0, none⟩)) (fun wr hwr => by simp only [execOp, (Fy7.eval 36 (by omega)).trans (show _ = Value.pointer (some ⟨rb, 0, none⟩) from by simp [upd, f0x, f1x])]; simp [go_sem]) fun Fy8 => ?_
    refine lyp Fy8 rfl HC3 rfl (by omega) (wanted_none rfl) (v := Value.pointer (some ⟨rb, 2, none⟩)) (fun wr hwr => by simp only [execOp, (Fy8.eval 37 (by omega)).trans (show _ = Value.pointer (some ⟨rb, 0, none⟩) from by simp [upd, f0x, f1x])]; simp [go_sem]) fun Fy9 => ?_
    refine lyp Fy9 rfl HC3 rfl (by omega) (wanted_none rfl) (v := Value.int .i64 per) (fun wr hwr => by simp only [execOp, (Fy9.eval 38 (by omega)).trans (show _ = Value.pointer (some ⟨rb, 2, none⟩) from by simp [upd, f0x, f1x])]; simp [go_sem, V2 wr hwr]) fun Fy10 => ?_
    refine lyp Fy10 rfl HC3 rfl (by omega) (wanted_none rfl) (v := Value.bool true) (fun wr hwr => by simp only [execOp, (Fy10.eval 35 (by omega)).trans (show _ = Value.int .i64 (cntK rep me KL : Nat) from by simp [upd, f0x, f1x]), (Fy10.eval 39 (by omega)).trans (show _ = Value.int .i64 per from by simp [upd, f0x, f1x])]; simp [go_sem, Act.eval, HQ.out]) fun Fy11 => ?_
    refine lyp Fy11 rfl HC3 rfl (by omega) (wanted_none rfl) (v := Value.bool true) (fun wr hwr => by simp only [execOp, (Fy11.eval 40 (by omega)).trans (show _ = Value.bool true from by simp [upd, f0x, f1x])]; first | rfl | simp [go_sem]) fun Fy12 => ?_
    refine ⟨fun _ => HC3, ?_⟩
    refine hK _ _ ?_
    clear F0 Fy1 Fy2 Fy3 Fy4 Fy5 Fy6 Fy7 Fy8 Fy9 Fy10 Fy11 Fy12 f0x f1x HCC V0 V2
    simp only [Act.put, List.setIfInBounds_toArray, List.set_cons_succ, List.set_cons_zero]

    have HB3 : Hid (Below w.heap.size w w3) := HB2.out.trans (HC3.mono HB2.out.size)
    clear HC3 hb3
    go_wp2_with fail
    go_ret
    exact ⟨rfl, RPost.same HT.out HB3.out⟩
  · have hc : rmc me rep per KL n = 0 := by unfold rmc; rw [if_neg g1, if_neg g2, if_neg g3, if_neg g4]
    rw [hc, if_pos rfl]
    have HQ : Hid (¬ per ≤ (cntK rep me KL : Int)) := g4
    have HKL : Hid (KL.length ≤ 100000) := hL
    clear hc hT hL hnl hrep g1 g2 g2e g3 g4 hkn
    go_enter Try.func54, Try.ntmps54
    go_wp2_with fail
    refine Calls.mono (HG.out _) ?_
    rintro e w' ⟨rfl, hw'⟩
    replace hw' := hw'.symm
    subst hw'
    go_wp2_with fail
    refine Calls.mono HK.out ?_
    rintro e w' ⟨rfl, hw'⟩
    replace hw' := hw'.symm
    subst hw'
    try rw [g1t]
    go_wp2_with fail
    rename_i K hK
    try rw [show ∀ a : Act, a.put none undef = a from fun _ => rfl]
    refine wp_region_mix (fun wq => Below w.heap.size w wq) (fun i => i == 5 || i == 99) 99 (by kernel_rfl) rfl (by kernel_rfl) (by kernel_rfl) (by kernel_rfl) ?_
    refine withFrP (N := 51) rfl ?_
    intro f0 F0 hff
    have e0 : f0 0 = Value.pointer (some ⟨rb, 0, none⟩) := hff 0
    have e1 : f0 1 = Value.string ⟨n.toArray⟩ := hff 1
    clear hff
    have HCC : (fun wq => Below w.heap.size w wq) (({ w with drawn := w.drawn + 1 } : World)) := (Below.drew (Below.refl w.heap.size w))
    have V0 : ∀ wr, Below w.heap.size w wr → wr.cell? ⟨rb, 0, none⟩ = some (.int .i64 me) := fun wr hw => (hw.cell (p := ⟨rb, 0, none⟩) (World.block_lt_of_cell? w _ HT.out.c0)).trans HT.out.c0
    have V1 : ∀ wr, Below w.heap.size w wr → wr.cell? ⟨rb, 1, none⟩ = some (.int .i64 rep) := fun wr hw => (hw.cell (p := ⟨rb, 1, none⟩) (World.block_lt_of_cell? w _ HT.out.c1)).trans HT.out.c1
    refine lyp F0 rfl HCC rfl (by omega) (wanted_none rfl) (v := Value.string ⟨n.toArray⟩) (fun wr hwr => by simp only [execOp, (F0.eval 1 (by omega)).trans (show _ = Value.string ⟨n.toArray⟩ from by simp [upd, e0, e1])]; first | rfl | simp [go_sem]) fun F1 => ?_
    refine lyp F1 rfl HCC rfl (by omega) (wanted_none rfl) (v := Value.pointer (some ⟨rb, 0, none⟩)) (fun wr hwr => by simp only [execOp, (F1.eval 0 (by omega)).trans (show _ = Value.pointer (some ⟨rb, 0, none⟩) from by simp [upd, e0, e1])]; first | rfl | simp [go_sem]) fun F2 => ?_
    refine lyp F2 rfl HCC rfl (by omega) (wanted_none rfl) (v := Value.pointer (some ⟨rb, 0, none⟩)) (fun wr hwr => by simp only [execOp, (F2.eval 17 (by omega)).trans (show _ = Value.pointer (some ⟨rb, 0, none⟩) from by simp [upd, e0, e1])]; simp [go_sem]) fun F3 => ?_
    refine lyp F3 rfl HCC rfl (by omega) (wanted_none rfl) (v := Value.pointer (some ⟨rb, 1, none⟩)) (fun wr hwr => by simp only [execOp, (F3.eval 18 (by omega)).trans (show _ = Value.pointer (some ⟨rb, 0, none⟩) from by simp [upd, e0, e1])]; simp [go_sem]) fun F4 => ?_
    refine lyp F4 rfl HCC rfl (by omega) (wanted_none rfl) (v := Value.int .i64 rep) (fun wr hwr => by simp only [execOp, (F4.eval 19 (by omega)).trans (show _ = Value.pointer (some ⟨rb, 1, none⟩) from by simp [upd, e0, e1])]; simp [go_sem, V1 wr hwr]) fun F5 => ?_
    refine lcp F5 rfl HCC rfl (by omega) (wanted_none rfl) (g := 13) (args := #[Value.string ⟨n.toArray⟩, Value.int .i64 rep]) (by simp only [execOp, resolve, invoke, List.map_toArray, List.map_cons, List.map_nil, (F5.eval 16 (by omega)).trans (show _ = Value.string ⟨n.toArray⟩ from by simp [upd, e0, e1]), (F5.eval 20 (by omega)).trans (show _ = Value.int .i64 rep from by simp [upd, e0, e1])]; simp [go_sem, Act.eval]) (HHO.out (({ w with drawn := w.drawn + 1 } : World))) ?_
    rintro e w2 ⟨rfl, hb2⟩
    refine ⟨_, rfl, fun F6 => ?_⟩
    have HC2 : (fun wq => Below w.heap.size w wq) w2 := (Below.drew (Below.refl w.heap.size w)).trans hb2
    refine lyp F6 rfl HC2 rfl (by omega) (wanted_none rfl) (v := Value.pointer (some ⟨rb, 0, none⟩)) (fun wr hwr => by simp only [execOp, (F6.eval 0 (by omega)).trans (show _ = Value.pointer (some ⟨rb, 0, none⟩) from by simp [upd, e0, e1])]; first | rfl | simp [go_sem]) fun F7 => ?_
    refine lyp F7 rfl HC2 rfl (by omega) (wanted_none rfl) (v := Value.pointer (some ⟨rb, 0, none⟩)) (fun wr hwr => by simp only [execOp, (F7.eval 22 (by omega)).trans (show _ = Value.pointer (some ⟨rb, 0, none⟩) from by simp [upd, e0, e1])]; simp [go_sem]) fun F8 => ?_
    refine lyp F8 rfl HC2 rfl (by omega) (wanted_none rfl) (v := Value.pointer (some ⟨rb, 0, none⟩)) (fun wr hwr => by simp only [execOp, (F8.eval 23 (by omega)).trans (show _ = Value.pointer (some ⟨rb, 0, none⟩) from by simp [upd, e0, e1])]; simp [go_sem]) fun F9 => ?_
    refine lyp F9 rfl HC2 rfl (by omega) (wanted_none rfl) (v := Value.int .i64 me) (fun wr hwr => by simp only [execOp, (F9.eval 24 (by omega)).trans (show _ = Value.pointer (some ⟨rb, 0, none⟩) from by simp [upd, e0, e1])]; simp [go_sem, V0 wr hwr]) fun F10 => ?_
    refine lyp F10 rfl HC2 rfl (by omega) (wanted_none rfl) (v := Value.bool false) (fun wr hwr => by simp only [execOp, (F10.eval 21 (by omega)).trans (show _ = Value.int .i64 (homeN n rep) from by simp [upd, e0, e1]), (F10.eval 25 (by omega)).trans (show _ = Value.int .i64 me from by simp [upd, e0, e1])]; simp [go_sem, Act.eval, HP.out]) fun F11 => ?_
    refine lyp F11 rfl HC2 rfl (by omega) (wanted_none rfl) (v := Value.bool false) (fun wr hwr => by simp only [execOp, (F11.eval 26 (by omega)).trans (show _ = Value.bool false from by simp [upd, e0, e1])]; first | rfl | simp [go_sem]) fun F12 => ?_
    refine ⟨fun _ => HC2, ?_⟩
    refine hK _ _ ?_
    clear F0 F1 F2 F3 F4 F5 F6 F7 F8 F9 F10 F11 F12 e0 e1 HCC V0 V1
    simp only [Act.put, List.setIfInBounds_toArray, List.set_cons_succ, List.set_cons_zero]

    have HB2 : Hid _ := HC2
    have HT2 : Hid _ := HT.out.more HC2
    clear HC2 hb2
    go_wp2_with fail
    rename_i K hK
    try rw [show ∀ a : Act, a.put none undef = a from fun _ => rfl]
    refine wp_region_mix (fun wq => Below w2.heap.size w2 wq) (fun i => i == 5 || i == 99) 99 (by kernel_rfl) rfl (by kernel_rfl) (by kernel_rfl) (by kernel_rfl) ?_
    refine withFrP (N := 51) rfl ?_
    intro f0 F0 hff
    have f0x : f0 0 = Value.pointer (some ⟨rb, 0, none⟩) := hff 0
    have f1x : f0 1 = Value.string ⟨n.toArray⟩ := hff 1
    clear hff
    have HCC : (fun wq => Below w2.heap.size w2 wq) (({ w2 with drawn := w2.drawn + 1 } : World)) := (Below.drew (Below.refl w2.heap.size w2))
    have V0 : ∀ wr, Below w2.heap.size w2 wr → wr.cell? ⟨rb, 0, none⟩ = some (.int .i64 me) := fun wr hw => (hw.cell (p := ⟨rb, 0, none⟩) (World.block_lt_of_cell? w2 _ HT2.out.c0)).trans HT2.out.c0
    have V2 : ∀ wr, Below w2.heap.size w2 wr → wr.cell? ⟨rb, 2, none⟩ = some (.int .i64 per) := fun wr hw => (hw.cell (p := ⟨rb, 2, none⟩) (World.block_lt_of_cell? w2 _ HT2.out.c2)).trans HT2.out.c2
    refine lyp F0 rfl HCC rfl (by omega) (wanted_none rfl) (v := Value.pointer (some ⟨rb, 0, none⟩)) (fun wr hwr => by simp only [execOp, (F0.eval 0 (by omega)).trans (show _ = Value.pointer (some ⟨rb, 0, none⟩) from by simp [upd, f0x, f1x])]; first | rfl | simp [go_sem]) fun Fy1 => ?_
    refine lyp Fy1 rfl HCC rfl (by omega) (wanted_none rfl) (v := Value.pointer (some ⟨rb, 0, none⟩)) (fun wr hwr => by simp only [execOp, (Fy1.eval 0 (by omega)).trans (show _ = Value.pointer (some ⟨rb, 0, none⟩) from by simp [upd, f0x, f1x])]; first | rfl | simp [go_sem]) fun Fy2 => ?_
    refine lyp Fy2 rfl HCC rfl (by omega) (wanted_none rfl) (v := Value.pointer (some ⟨rb, 0, none⟩)) (fun wr hwr => by simp only [execOp, (Fy2.eval 31 (by omega)).trans (show _ = Value.pointer (some ⟨rb, 0, none⟩) from by simp [upd, f0x, f1x])]; simp [go_sem]) fun Fy3 => ?_
    refine lyp Fy3 rfl HCC rfl (by omega) (wanted_none rfl) (v := Value.pointer (some ⟨rb, 0, none⟩)) (fun wr hwr => by simp only [execOp, (Fy3.eval 32 (by omega)).trans (show _ = Value.pointer (some ⟨rb, 0, none⟩) from by simp [upd, f0x, f1x])]; simp [go_sem]) fun Fy4 => ?_
    refine lyp Fy4 rfl HCC rfl (by omega) (wanted_none rfl) (v := Value.int .i64 me) (fun wr hwr => by simp only [execOp, (Fy4.eval 33 (by omega)).trans (show _ = Value.pointer (some ⟨rb, 0, none⟩) from by simp [upd, f0x, f1x])]; simp [go_sem, V0 wr hwr]) fun Fy5 => ?_
    refine lcp Fy5 rfl HCC rfl (by omega) (wanted_none rfl) (g := 66) (args := #[Value.pointer (some ⟨rb, 0, none⟩), Value.int .i64 me]) (by simp only [execOp, resolve, invoke, List.map_toArray, List.map_cons, List.map_nil, (Fy5.eval 30 (by omega)).trans (show _ = Value.pointer (some ⟨rb, 0, none⟩) from by simp [upd, f0x, f1x]), (Fy5.eval 34 (by omega)).trans (show _ = Value.int .i64 me from by simp [upd, f0x, f1x])]; simp [go_sem, Act.eval]) (HOF.out (({ w2 with drawn := w2.drawn + 1 } : World)) (HT2.out.more HCC)) ?_
    rintro e w3 ⟨rfl, hb3⟩
    refine ⟨_, rfl, fun Fy6 => ?_⟩
    have HC3 : (fun wq => Below w2.heap.size w2 wq) w3 := (Below.drew (Below.refl w2.heap.size w2)).trans hb3
    refine lyp Fy6 rfl HC3 rfl (by omega) (wanted_none rfl) (v := Value.pointer (some ⟨rb, 0, none⟩)) (fun wr hwr => by simp only [execOp, (Fy6.eval 0 (by omega)).trans (show _ = Value.pointer (some ⟨rb, 0, none⟩) from by simp [upd, f0x, f1x])]; first | rfl | simp [go_sem]) fun Fy7 => ?_
    refine lyp Fy7 rfl HC3 rfl (by omega) (wanted_none rfl) (v := Value.pointer (some ⟨rb, 0, none⟩)) (fun wr hwr => by simp only [execOp, (Fy7.eval 36 (by omega)).trans (show _ = Value.pointer (some ⟨rb, 0, none⟩) from by simp [upd, f0x, f1x])]; simp [go_sem]) fun Fy8 => ?_
    refine lyp Fy8 rfl HC3 rfl (by omega) (wanted_none rfl) (v := Value.pointer (some ⟨rb, 2, none⟩)) (fun wr hwr => by simp only [execOp, (Fy8.eval 37 (by omega)).trans (show _ = Value.pointer (some ⟨rb, 0, none⟩) from by simp [upd, f0x, f1x])]; simp [go_sem]) fun Fy9 => ?_
    refine lyp Fy9 rfl HC3 rfl (by omega) (wanted_none rfl) (v := Value.int .i64 per) (fun wr hwr => by simp only [execOp, (Fy9.eval 38 (by omega)).trans (show _ = Value.pointer (some ⟨rb, 2, none⟩) from by simp [upd, f0x, f1x])]; simp [go_sem, V2 wr hwr]) fun Fy10 => ?_
    refine lyp Fy10 rfl HC3 rfl (by omega) (wanted_none rfl) (v := Value.bool false) (fun wr hwr => by simp only [execOp, (Fy10.eval 35 (by omega)).trans (show _ = Value.int .i64 (cntK rep me KL : Nat) from by simp [upd, f0x, f1x]), (Fy10.eval 39 (by omega)).trans (show _ = Value.int .i64 per from by simp [upd, f0x, f1x])]; simp [go_sem, Act.eval, HQ.out]) fun Fy11 => ?_
    refine lyp Fy11 rfl HC3 rfl (by omega) (wanted_none rfl) (v := Value.bool false) (fun wr hwr => by simp only [execOp, (Fy11.eval 40 (by omega)).trans (show _ = Value.bool false from by simp [upd, f0x, f1x])]; first | rfl | simp [go_sem]) fun Fy12 => ?_
    refine ⟨fun _ => HC3, ?_⟩
    refine hK _ _ ?_
    clear F0 Fy1 Fy2 Fy3 Fy4 Fy5 Fy6 Fy7 Fy8 Fy9 Fy10 Fy11 Fy12 f0x f1x HCC V0 V2
    simp only [Act.put, List.setIfInBounds_toArray, List.set_cons_succ, List.set_cons_zero]

    have HB3 : Hid (Below w.heap.size w w3) := HB2.out.trans (HC3.mono HB2.out.size)
    have hT3 := HT2.out.more HC3
    have c3 := hT3.c3
    obtain ⟨ao, cap, hv, _⟩ := own_slice hT3.kr
    rw [hv] at c3
    have HRO : Hid (World.ownsRow w3 B 9 1 (.slice ao KL.length cap) KL.length (flatS KL)) := show World.ownsRow w3 B 9 1 (.slice ao KL.length cap) KL.length (flatS KL) from by rw [← hv]; exact hT3.kr
    have HSZ : Hid (B ≤ w3.heap.size) := hT3.low
    have HT3 : Hid _ := hT3
    have HV : Hid (kl = .slice ao KL.length cap) := hv
    clear HC3 hb3 hT3 hv
    go_wp2_with (first | (at_builtin; go_must (refine wpList_appS rfl _ _ rfl B KL.length _ KL rfl HRO.out n rfl (by first | rfl | simp) HKL.out HSZ.out ?_)))
    intro v' w5 ho5 hg5
    obtain ⟨ao5, cap5, hv5, _⟩ := own_slice ho5
    subst hv5
    have hB5 := hg5.chg.blk HT3.out.blk (by rw [← HV.out]; exact HT3.out.knb HT3.out.blk (by decide))
    have hfz := hB5.frozen 3
    have hcz : w5.cell? ⟨rb, 3, none⟩ = some kl := hB5.cell 3
    have HPO : Hid (RPost B rb kl wl me rep per (KL ++ [n]) WL w (w5.setCell ⟨rb, 3, none⟩ (.slice ao5 (KL.length + 1) cap5))) := RPost.ofK (KL' := KL ++ [n]) HT.out HB3.out (by rw [HV.out]; exact hg5) (by rw [List.length_append]; exact ho5)
    rw [HV.out] at hcz
    clear ho5 hg5 hB5 c3
    go_wp2_with fail
    go_ret
    exact ⟨rfl, HPO.out⟩
end Go.Proofs.Ytgjibihhchojoaa
