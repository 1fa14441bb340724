import Derived.Test.YtifgmefdlmjocaaTk0
namespace Go.Proofs.Ytifgmefdlmjocaa
open Go.RowKit Go.PlainAid Go.MapKept
set_option linter.unusedVariables false
set_option linter.unusedSimpArgs false
theorem info32 : (Try.prog.info? 32).map (fun i => (i.zero, i.size, i.bytes)) = some (some (.pointer none), 1, 8) := by kernel_rfl
def Z38 : Array Value := #[.slice none 0 0, .slice none 0 0, .slice none 0 0, .slice none 0 0, .slice none 0 0, .slice none 0 0, .slice none 0 0, .slice none 0 0, .slice none 0 0, .slice none 0 0, .slice none 0 0, .slice none 0 0, .slice none 0 0, .slice none 0 0, .slice none 0 0, .slice none 0 0, .slice none 0 0, .slice none 0 0, .slice none 0 0, .slice none 0 0, .slice none 0 0, .slice none 0 0, .slice none 0 0, .slice none 0 0, .slice none 0 0, .slice none 0 0, .slice none 0 0, .slice none 0 0, .slice none 0 0, .slice none 0 0, .slice none 0 0, .slice none 0 0, .slice none 0 0, .slice none 0 0]
/-- The views that are made, one by one. -/
structure BG (w : World) (tb n k : Nat) (ps : List (Nat × Nat)) (wr : World) : Prop where
  len : ps.length = k
  tk : ∃ v, Blk wr tb (Z38.setIfInBounds 0 v) 38 ∧ wr.ownsRow w.heap.size 32 1 v k (ps.map fun p => Ptr p.1)
  vs : ∀ (i : Nat) (p : Nat × Nat), ps[i]? = some p → Vw p.1 p.2 (i : Int) n [] wr ∧ w.heap.size ≤ p.1 ∧ w.heap.size ≤ p.2
  ne : ∀ (i j : Nat) (p q : Nat × Nat), ps[i]? = some p → ps[j]? = some q → i ≠ j → p.2 ≠ q.2
  bel : Below w.heap.size w wr
theorem BG.cell {w wr : World} {tb n k : Nat} {ps : List (Nat × Nat)} (h : BG w tb n k ps wr) : ∃ v, wr.cell? ⟨tb, 0, none⟩ = some v ∧ wr.ownsRow w.heap.size 32 1 v k (ps.map fun p => Ptr p.1) ∧ Blk wr tb (Z38.setIfInBounds 0 v) 38 := by
  obtain ⟨v, hb, ho⟩ := h.tk
  exact ⟨v, (hb.cell 0).trans rfl, ho, hb⟩
theorem wpList_appP {w : World} {ops : Array Oper} {rest : List Oper} {o : Oper} {a : Act} {Q : Exit → Act → World → Prop} (hgd : o.guard = none) (s x : Operand)
    (ho : o.op = .call { callee := .builtin .append, args := #[s, x], argTypes := #[33, 33] })
    (base k : Nat) (v : Value) (es : List Value) (hs : a.eval s = v) (hown : w.ownsRow base 32 1 v k es) (hb : Nat) {g : Nat} (hx : a.eval x = .slice (some ⟨g, 0, none⟩) 1 1) (hgs : g = w.heap.size) (hlen : k ≤ 1000) (hbase : base ≤ w.heap.size)
    (h : ∀ v' w', w'.ownsRow base 32 1 v' (k + 1) (es ++ [Ptr hb]) → Grew w w' v v' → wpList Try.prog ops Q rest (a.put o.dst v') w') :
    wpList Try.prog ops Q (o :: rest) a (w.alloc (.cells #[.pointer (some ⟨hb, 0, none⟩)] 32)) := by
  subst hgs
  refine wpList_app 33 32 (.pointer none) 1 8 Try.underlying33 info32 rfl (by decide) (by decide) hgd s x ho base k v es hs (hown.alloc _) ⟨w.heap.size, 0, none⟩ 1 1 [Ptr hb] hx rfl (fun j u hu => ?_) (fun u hu => by simp at hu; subst hu; rfl) (by omega) (by rw [World.size_alloc]; omega) ?_
  · rw [addr_add, Nat.zero_add]
    have hB : Blk (w.alloc (.cells #[.pointer (some ⟨hb, 0, none⟩)] 32)) w.heap.size #[.pointer (some ⟨hb, 0, none⟩)] 32 := heap_alloc_new w _
    rw [hB.cell j]
    simpa [Ptr] using hu
  · intro v' w' h1 h2 _
    exact h v' w' h1 h2.ofAlloc
/-- One more is made. -/
theorem BG.step {w wr w2 w5 : World} {tb n k hb mb : Nat} {ps : List (Nat × Nat)} {v v' : Value} (h : BG w tb n k ps wr) (htb : w.heap.size ≤ tb) (hB : Blk wr tb (Z38.setIfInBounds 0 v) 38) (hro : wr.ownsRow w.heap.size 32 1 v k (ps.map fun p => Ptr p.1)) (hb2 : Below wr.heap.size wr w2) (hV : Vw hb mb (k : Int) n [] w2) (l1 : wr.heap.size ≤ hb) (l2 : wr.heap.size ≤ mb) (hg : Grew w2 w5 v v') (ho : w5.ownsRow w.heap.size 32 1 v' (k + 1) ((ps.map fun p => Ptr p.1) ++ [Ptr hb])) :
    BG w tb n (k + 1) (ps ++ [(hb, mb)]) (w5.setCell ⟨tb, 0, none⟩ v') := by
  have hc := hg.chg
  have hB2 := hB.below hb2 hB.lt
  have hro2 : w2.ownsRow w.heap.size 32 1 v k (ps.map fun p => Ptr p.1) := ownsRow_same hro (fun g e => hb2.block g (ownsRow_lt hro e).2)
  have tyk : ∀ (b : Nat) (D : Array Value) (U : TypeId), Blk w2 b D U → U ≠ 32 → ¬ v.ownBlock = some b := fun b D U hB hU e => by
    obtain ⟨cu, hcu⟩ := ownsRow_type hro2 e
    exact Blk.ne_t hB (show Blk w2 b cu 32 from hcu) hU rfl
  have mpk : ∀ (b : Nat) (LL : List Ent), HMap w2 b LL → ¬ v.ownBlock = some b := fun b LL hm e => by
    obtain ⟨cu, hcu⟩ := ownsRow_type hro2 e
    exact hm.ne_b (show Blk w2 b cu 32 from hcu) rfl
  have hs : Chg (fun b => b = tb) w5 (w5.setCell ⟨tb, 0, none⟩ v') := ⟨rfl, rfl, rfl, by simp [World.setCell], fun j hj hn => Below.heap_setCell _ _ _ _ hn⟩
  have hB5 := hc.blk hB2 (tyk _ _ _ hB2 (by decide))
  have keepV : ∀ (a b : Nat) (i : Int), Vw a b i n [] w2 → Vw a b i n [] (w5.setCell ⟨tb, 0, none⟩ v') := fun a b i hv =>
    (hv.keep hc (tyk _ _ _ hv.blk (by decide)) (mpk _ _ hv.map)).keep hs (hv.blk.ne_t hB2 (by decide)) (fun e => hv.map.ne_b hB2 e.symm)
  have hlen := h.len
  refine ⟨by simp [hlen], ⟨v', ?_, ?_⟩, fun i p hp => ?_, fun i j p q hp hq hij => ?_, ?_⟩
  · have := hB5.set 0 v'
    rw [Array.setIfInBounds_setIfInBounds] at this
    exact this
  · rw [List.map_append]
    exact ownsRow_same ho (fun g e => by
      obtain ⟨cu, hcu⟩ := ownsRow_type ho e
      exact Below.heap_setCell _ _ _ _ (Blk.ne_t (show Blk w5 g cu 32 from hcu) hB5 (by decide)))
  · by_cases hi : i < k
    · rw [List.getElem?_append_left (by omega)] at hp
      obtain ⟨a1, a2, a3⟩ := h.vs i p hp
      exact ⟨keepV _ _ _ (a1.more hb2), a2, a3⟩
    · rw [List.getElem?_append_right (by omega)] at hp
      have hik : i = k := by
        have := (List.getElem?_eq_some_iff.1 hp).1
        simp at this
        omega
      subst hik
      rw [hlen, Nat.sub_self] at hp
      simp at hp
      subst hp
      have := h.bel.size
      exact ⟨keepV _ _ _ hV, by show w.heap.size ≤ hb; omega, by show w.heap.size ≤ mb; omega⟩
  · have key : ∀ (i : Nat) (p : Nat × Nat), (ps ++ [(hb, mb)])[i]? = some p → (i < k ∧ ps[i]? = some p ∧ p.2 < wr.heap.size) ∨ (i = k ∧ p.2 = mb) := fun i p hp => by
      by_cases hi : i < k
      · rw [List.getElem?_append_left (by omega)] at hp
        exact Or.inl ⟨hi, hp, (h.vs i p hp).1.map.lt⟩
      · rw [List.getElem?_append_right (by omega)] at hp
        have hik : i = k := by
          have := (List.getElem?_eq_some_iff.1 hp).1
          simp at this
          omega
        subst hik
        rw [hlen, Nat.sub_self] at hp
        simp at hp
        subst hp
        exact Or.inr ⟨rfl, rfl⟩
    rcases key i p hp with ⟨a1, a2, a3⟩ | ⟨a1, a2⟩
    · rcases key j q hq with ⟨b1, b2, b3⟩ | ⟨b1, b2⟩
      · exact h.ne i j p q a2 b2 hij
      · omega
    · rcases key j q hq with ⟨b1, b2, b3⟩ | ⟨b1, b2⟩
      · omega
      · omega
  · have q1 : Below w.heap.size w w2 := h.bel.trans (hb2.mono h.bel.size)
    have q2 : Below w.heap.size w w5 := q1.trans (hg.below (fun j e => (ownsRow_lt hro2 e).1) q1.size)
    exact q2.trans (hs.below q2.size (fun k e => by rw [e]; exact htb))
set_option maxRecDepth 100000 in
set_option maxHeartbeats 3200000 in
theorem begun_any (n : Nat) (w : World) (hn : 2 ≤ n ∧ n ≤ 8) : Calls Try.prog 11 #[.int .i64 (n : Int)] w fun e w' => ∃ tb ps, e = .returned (.pointer (some ⟨tb, 0, none⟩)) ∧ w.heap.size ≤ tb ∧ BG w tb n n ps w' := by
  obtain ⟨hn1, hn2⟩ := hn
  have hz : Z38.setIfInBounds 0 (.slice none 0 0) = Z38 := by kernel_rfl
  have H0 : Hid (BG w w.heap.size n 0 [] (w.alloc (.cells Z38 38))) := ⟨rfl, ⟨.slice none 0 0, by rw [hz]; exact heap_alloc_new w _, World.ownsRow_nil _ _ _ _⟩, fun i p h => by simp at h, fun i j p q h => by simp at h, (Below.refl _ _).alloc (Nat.le_refl _) _⟩
  clear hz
  obtain ⟨X, hX⟩ : ∃ X, X = w.alloc (.cells Z38 38) := ⟨_, rfl⟩
  rw [← hX] at H0
  unfold Z38 at hX
  go_enter Try.func11, Try.ntmps11
  go_wp2_with fail
  rw [← hX]
  clear hX
  obtain ⟨tb, htb⟩ : ∃ tb, tb = w.heap.size := ⟨_, rfl⟩
  rw [← htb] at H0 ⊢
  have HTB : Hid (w.heap.size ≤ tb) := Nat.le_of_eq htb.symm
  clear htb
  go_loopw [4] (fun i wr => ∃ (k : Nat) (ps : List (Nat × Nat)), k ≤ n ∧ i = .int .i64 k ∧ BG w tb n k ps wr) (fun i _ => n - (intOf i).toNat)
  case atStart => exact ⟨0, [], Nat.zero_le _, rfl, H0.out⟩
  case round =>
    obtain ⟨k, ps, hk, rfl, hG⟩ := hrel
    by_cases hlt : k < n
    · obtain ⟨v, ct, hro, hB⟩ := hG.cell
      have HN : Hid _ := new_any (k : Int) (n : Int) wr (by unfold newCode; rw [if_neg (by omega), if_neg (by omega)])
      have HG : Hid _ := hG
      have HRO : Hid _ := hro
      have HB : Hid _ := hB
      obtain ⟨ao, cap, hv, _⟩ := own_slice hro
      subst hv
      clear hG hro hB H0
      go_wp2_with fail
      refine Calls.mono HN.out ?_
      rintro e w2 ⟨rfl, hV2, hb2, hs2⟩
      have c2 : w2.cell? ⟨tb, 0, none⟩ = some (.slice ao k cap) := (hb2.cell (p := ⟨tb, 0, none⟩) (World.block_lt_of_cell? wr _ ct)).trans ct
      have HW2 : Hid (w2.ownsRow w.heap.size 32 1 (.slice ao k cap) k (ps.map fun p => Ptr p.1)) := ownsRow_same HRO.out (fun g e => hb2.block g (ownsRow_lt HRO.out e).2)
      have HSZ : Hid (w.heap.size ≤ w2.heap.size) := Nat.le_trans HG.out.bel.size hb2.size
      have HV2 : Hid _ := hV2
      have HB2 : Hid _ := hb2
      clear hV2 hb2 hs2 HN ct
      go_wp2_with (first | (at_builtin; go_must (refine wpList_appP rfl _ _ rfl w.heap.size k _ (ps.map fun p => Ptr p.1) rfl HW2.out (wr.heap.size + 1) rfl (by first | rfl | simp) (by omega) HSZ.out ?_)))
      intro v' w5 ho5 hg5
      obtain ⟨ao', cap', hv', _⟩ := own_slice ho5
      subst hv'
      have hst := BG.step HG.out HTB.out HB.out HRO.out HB2.out HV2.out (by omega) (Nat.le_refl _) hg5 ho5
      have HST : Hid _ := hst
      have hB5 : Blk w5 tb (Z38.setIfInBounds 0 (.slice ao k cap)) 38 := by
        have hB2 := Blk.below HB.out HB2.out (Blk.lt HB.out)
        exact hg5.chg.blk hB2 (fun e => by
          obtain ⟨cu, hcu⟩ := ownsRow_type HW2.out e
          exact Blk.ne_t hB2 (show Blk w2 tb cu 32 from hcu) (by decide) rfl)
      have fz := hB5.frozen 0
      have cz : w5.cell? ⟨tb, 0, none⟩ = some (.slice ao k cap) := (hB5.cell 0).trans rfl
      clear ho5 hg5 hst hB5 c2
      go_wp2_with fail
      go_roundw
      case rel => exact ⟨k + 1, ps ++ [(wr.heap.size + 1, wr.heap.size)], by omega, by go_num, HST.out⟩
      case measure => simp [intOf]; omega
    · obtain rfl : k = n := by omega
      have HG : Hid _ := hG
      clear hG
      go_wp2_with fail
      go_ret
      exact ⟨tb, ps, rfl, HTB.out, HG.out⟩
end Go.Proofs.Ytifgmefdlmjocaa
