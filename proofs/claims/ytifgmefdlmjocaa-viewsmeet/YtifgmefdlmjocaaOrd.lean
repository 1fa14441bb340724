import Derived.Test.YtifgmefdlmjocaaSrt
namespace Go.Proofs.Ytifgmefdlmjocaa
open Go.RowKit Go.PlainAid Go.Sort
set_option linter.unusedVariables false
set_option linter.unusedSimpArgs false
theorem cmp_lt : ∀ a b : List UInt8, decide (Lib.compareBytes a b < 0) = nlt a b
  | [], [] => rfl
  | [], _ :: _ => rfl
  | _ :: _, [] => rfl
  | x :: xs, y :: ys => by
    have ih := cmp_lt xs ys
    unfold nlt at *
    simp only [Lib.compareBytes, Op.bytesLess]
    by_cases h1 : x < y
    · simp [h1]
    · by_cases h2 : y < x
      · have h3 : x ≠ y := fun e => by subst e; exact h1 h2
        simp [h1, h2, h3]
      · have h3 : x = y := by apply UInt8.toNat_inj.1; simp only [UInt8.lt_iff_toNat_lt] at *; omega
        subst h3
        simp [h1, ← ih]
theorem nlt_irrefl : ∀ a : List UInt8, nlt a a = false
  | [] => rfl
  | x :: xs => by
    have := nlt_irrefl xs
    unfold nlt at *
    simp only [Op.bytesLess]
    have h : ¬ x < x := by simp only [UInt8.lt_iff_toNat_lt]; omega
    simp [h, this]
theorem nlt_trans : ∀ a b c : List UInt8, nlt a b = true → nlt b c = true → nlt a c = true
  | _, [], _, h, _ => by unfold nlt at h; cases ‹List UInt8› <;> simp [Op.bytesLess] at h
  | _, _ :: _, [], _, h => by simp [nlt, Op.bytesLess] at h
  | [], _ :: _, _ :: _, _, _ => rfl
  | x :: xs, y :: ys, z :: zs, h1, h2 => by
    have ih := nlt_trans xs ys zs
    unfold nlt at *
    simp only [Op.bytesLess, Bool.or_eq_true, decide_eq_true_eq, Bool.and_eq_true, beq_iff_eq, UInt8.lt_iff_toNat_lt] at *
    rcases h1 with h1 | ⟨rfl, h1⟩
    · rcases h2 with h2 | ⟨rfl, h2⟩
      · exact Or.inl (by omega)
      · exact Or.inl h1
    · rcases h2 with h2 | ⟨rfl, h2⟩
      · exact Or.inl h2
      · exact Or.inr ⟨rfl, ih h1 h2⟩
theorem nlt_ntrans (a b c : List UInt8) (h1 : nlt a b = false) (h2 : nlt b c = false) : nlt a c = false := by
  cases h : nlt a c
  · rfl
  · have t1 := nlt_tri b a
    rw [h1] at t1
    have t2 := nlt_tri c b
    rw [h2] at t2
    simp at t1 t2
    cases hab : nlt b a with
    | true =>
      have := nlt_trans b a c hab h
      rw [h2] at this
      cases this
    | false =>
      have e : a = b := by
        have := nlt_tri b a
        rw [hab, h1] at this
        simpa using this
      rw [e, h2] at h
      cases h
theorem nlt_ne {a b : List UInt8} (h1 : nlt a b = false) (h2 : nlt b a = false) : a = b := by
  have := nlt_tri a b
  rw [h1, h2] at this
  have h3 : b = a := by simpa using this.symm
  exact h3.symm
def Ent.cs (e : Ent) : List Value := [.string ⟨e.n.toArray⟩, .int .i64 e.c, .int .i64 e.rc, .int .i64 e.v, .int .i64 e.d, .int .i64 e.u, .int .i64 e.h]
def flatV (es : List Ent) : List Value := es.flatMap Ent.cs
theorem flatV_length : ∀ es : List Ent, (flatV es).length = es.length * 7
  | [] => rfl
  | e :: t => by
    have := flatV_length t
    simp only [flatV, List.flatMap_cons, List.length_append, List.length_cons] at this ⊢
    rw [this]
    simp [Ent.cs]
    omega
theorem flatV_get : ∀ (es : List Ent) (i j : Nat) (e : Ent), es[i]? = some e → j < 7 → (flatV es)[i * 7 + j]? = e.cs[j]?
  | [], _, _, _, h, _ => by simp at h
  | x :: t, 0, j, e, h, hj => by
    simp at h
    subst h
    simp only [flatV, List.flatMap_cons, Nat.zero_mul, Nat.zero_add]
    exact List.getElem?_append_left (by simp [Ent.cs]; omega)
  | x :: t, i + 1, j, e, h, hj => by
    have ih := flatV_get t i j e (by simpa using h) hj
    simp only [flatV, List.flatMap_cons] at ih ⊢
    rw [List.getElem?_append_right (by simp [Ent.cs]; omega)]
    rw [← ih]
    congr 1
    simp [Ent.cs]
    omega
instance : Inhabited Ent := ⟨zed⟩
theorem flatK_is (es : List Ent) : (flatK Ent.cs 7 es.toArray).toList = flatV es := by
  apply List.ext_getElem?
  intro t
  by_cases ht : t < es.length * 7
  · have h1 : t / 7 < es.length := by omega
    have he : es[t / 7]? = some es[t / 7] := List.getElem?_eq_getElem h1
    have := flatV_get es (t / 7) (t % 7) _ he (by omega)
    rw [show t / 7 * 7 + t % 7 = t by omega] at this
    rw [this]
    simp only [flatK, Array.toList_map, List.getElem?_map, Array.toList_range, List.size_toArray]
    rw [List.getElem?_range ht]
    simp only [Option.map_some]
    rw [show es.toArray[t / 7]! = es[t / 7] from by simp [h1]]
    rw [List.getElem?_eq_getElem (by simp [Ent.cs]; omega)]
    rw [getElem!_pos _ _ (by simp [Ent.cs]; omega)]
  · rw [List.getElem?_eq_none (by simp; omega), List.getElem?_eq_none (by rw [flatV_length]; omega)]
set_option maxRecDepth 100000 in
set_option maxHeartbeats 1600000 in
theorem closure_any (a b : Ent) (W : World) : Calls Try.prog 27 #[.agg a.cs.toArray, .agg b.cs.toArray] W fun e w' => e = .returned (.int .i64 (Lib.compareBytes a.n b.n)) ∧ ∃ q os', w' = Sort.grow (W.drewN q) os' := by
  have hcon := fun W' => compare_any a.n b.n W'
  generalize Lib.compareBytes a.n b.n = r at hcon ⊢
  unfold Ent.cs
  go_enter Try.func27, Try.ntmps27
  go_wp2_with (go_at_call 28; refine (hcon _).mono ?_; rintro e w' ⟨rfl, hw'⟩; replace hw' := hw'.symm; subst hw')
  go_ret
  exact ⟨rfl, 0, _, by rw [alloc_eq_grow, alloc_eq_grow, grow_grow]; rfl⟩
theorem ltV (x y : Ent) : ltOf (fun x y : Ent => Lib.compareBytes x.n y.n) x y = nlt x.n y.n := cmp_lt _ _
theorem swoV : SWO (ltOf fun x y : Ent => Lib.compareBytes x.n y.n) where
  irrefl x := by rw [ltV]; exact nlt_irrefl _
  trans x y z h1 h2 := by rw [ltV] at *; exact nlt_trans _ _ _ h1 h2
  ntrans x y z h1 h2 := by rw [ltV] at *; exact nlt_ntrans _ _ _ h1 h2
theorem sizeV : (Try.prog.info? 46).map (fun i => (i.zero, i.size, i.bytes)) = some (some (viewV zed), 7, 64) := by kernel_rfl
set_option maxHeartbeats 1600000 in
/-- Views are sorted by their names. -/
theorem sortV_any {w : World} {L n g cap : Nat} {es : List Ent} (hl : es.length = n) (hn : n ≤ 100000) (hown : w.ownsRow L 46 7 (.slice (some ⟨g, 0, none⟩) n cap) n (flatV es)) :
    Calls Try.prog 26 #[.slice (some ⟨g, 0, none⟩) n cap, .func (.func 27) #[] #[]] w fun e w' => e = .returned (.tuple #[]) ∧ ∃ ds : List Ent, ds.Perm es ∧ ds.Pairwise (fun a b => nlt b.n a.n = false) ∧ w'.ownsRow L 46 7 (.slice (some ⟨g, 0, none⟩) n cap) n (flatV ds) ∧ Chg (fun k => k = g) w w' := by
  have eg : ∀ args w, (callFunc 27 args).run Try.prog w = .ok (.enter 27 args) w := enters_of Try.func27 (by kernel_rfl) rfl
  rcases hown.2 with ⟨h1, _⟩ | ⟨g2, c, cur, h1, h2, h3, h4, h5, h6, h7⟩
  · cases h1
  cases h1
  have hgs : g < w.heap.size := (Array.getElem?_eq_some_iff.1 h3).1
  have hH : HoldsK Ent.cs 7 w g 0 es.toArray := by
    intro j hj
    have hj' : j < es.length * 7 := by simpa using hj
    refine ⟨?_, by simp [World.frozen?, h3]⟩
    have hjl : j < (flatV es).length := by rw [flatV_length]; exact hj'
    have hx : (flatV es)[j]? = some ((flatV es)[j]'hjl) := List.getElem?_eq_getElem hjl
    have := hown.cells (g := g) rfl j _ hx
    rw [addr_add] at this
    rw [this]
    have e2 : (flatK Ent.cs 7 es.toArray)[j]! = (flatV es)[j]'hjl := by
      rw [getElem!_pos (flatK Ent.cs 7 es.toArray) j hj]
      have := congrArg (fun l : List Value => l[j]?) (flatK_is es)
      simp only [Array.getElem?_toList] at this
      rw [Array.getElem?_eq_getElem hj, hx] at this
      exact Option.some.inj this
    rw [e2]
    rfl
  have hS := AnyQ.slices_SortFunc sortV 7 Try.isAgg46 Try.sizeOf46 Ent.cs (fun _ => rfl) (fun x v hv => by simp [Ent.cs] at hv; rcases hv with rfl | rfl | rfl | rfl | rfl | rfl | rfl <;> rfl) (fun x y => Lib.compareBytes x.n y.n) swoV 27 #[] g 0 cap es.toArray w eg (fun _ _ _ _ x y => closure_any x y _) hH hgs (by simp; omega)
  have hsz : es.toArray.size = n := by simpa using hl
  rw [hsz] at hS
  change Calls Try.prog 26 _ _ _ at hS
  refine hS.mono ?_
  rintro e w' ⟨rfl, d', q, os, ⟨hp1, _, hp2⟩, hs, rfl⟩
  have hd : d'.toList.Perm es := by
    have e1 : d'.extract 0 n = d' := by rw [← hsz, ← hp1]; simp
    have e2 : es.toArray.extract 0 n = es.toArray := by rw [← hsz]; simp
    rw [e1, e2] at hp2
    exact hp2
  have hdl : d'.toList.length = n := by rw [hd.length_eq, hl]
  refine ⟨rfl, d'.toList, hd, ?_, ?_, ?_⟩
  · rw [List.pairwise_iff_getElem]
    intro i j hi hj hij
    have := hs i j (Nat.zero_le _) hij (by omega)
    rw [ltV] at this
    have gi : d'[i]! = d'.toList[i] := by rw [getElem!_pos _ _ (by simpa using hi)]; simp
    have gj : d'[j]! = d'.toList[j] := by rw [getElem!_pos _ _ (by simpa using hj)]; simp
    rw [gi, gj] at this
    exact this
  · have hfl : (flatK Ent.cs 7 d').toList = flatV d'.toList := by
      have := flatK_is d'.toList
      simpa using this
    have hfs : (flatK Ent.cs 7 d').size = n * 7 := by rw [size_flatK, hp1, hsz]
    refine ⟨by rw [flatV_length, hdl], .inr ⟨g, cap, putCells id 0 (flatK Ent.cs 7 d') cur, rfl, h2, ?_, h4, h5, by simp [putCells, h6], ?_⟩⟩
    · show (grow (putRow id (Sort.ahead w q) g 0 (flatK Ent.cs 7 d')) os).heap[g]? = _
      rw [heap_grow_old _ _ (by simpa [putRow, mapBlock, Sort.ahead] using hgs)]
      simp [putRow, mapBlock, Sort.ahead, Array.getElem?_modify, h3, onCells]
    · rw [← hfl]
      apply List.ext_getElem?
      intro j
      by_cases hj : j < n * 7
      · have hjc : j < cur.size := by rw [h6]; have := Nat.mul_le_mul_right 7 h4; omega
        rw [List.getElem?_take_of_lt hj, Array.getElem?_toList, Array.getElem?_toList]
        simp [putCells, hfs, hj, hjc]
      · rw [List.getElem?_take_eq_none (by omega), List.getElem?_eq_none (by simp [hfs]; omega)]
  · refine ⟨rfl, rfl, rfl, by simp [sortWorldK, putRowK, putRow, mapBlock, Sort.ahead, grow], fun k hk hne => ?_⟩
    show (grow (putRow id (Sort.ahead w q) g 0 (flatK Ent.cs 7 d')) os).heap[k]? = _
    rw [heap_grow_old _ _ (by simpa [putRow, mapBlock, Sort.ahead] using hk)]
    have : g ≠ k := fun e => hne e.symm
    simp [putRow, mapBlock, Sort.ahead, Array.getElem?_modify, this]
theorem sortV_none (p : Option Addr) (cap : Nat) (w : World) : Calls Try.prog 26 #[.slice p 0 cap, .func (.func 27) #[] #[]] w fun e w' => e = .returned (.tuple #[]) ∧ w' = w := AnyF.slices_SortFunc_none sortV p cap _ w
end Go.Proofs.Ytifgmefdlmjocaa
