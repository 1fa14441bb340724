import Derived.Test.YtjpdcahodmomgaaJn20
namespace Go.Proofs.Ytjpdcahodmomgaa
open Go.RowKit Go.PlainAid
set_option linter.unusedVariables false
set_option linter.unusedSimpArgs false
theorem below_lo {L : Nat} {w w' : World} (hL : L = w.heap.size) (h : Below L w w') : Below w.heap.size w w' := by rw [← hL]; exact h
theorem box_cells {w : World} {A : Nat} {a b c : JD} (h : Blk w A (arrA [a, b, c]) 32) : w.cell? ⟨A, 0, none⟩ = some (.pointer (some ⟨a.jb, 0, none⟩)) ∧ w.cell? ⟨A, 1, none⟩ = some (.pointer (some ⟨b.jb, 0, none⟩)) ∧ w.cell? ⟨A, 2, none⟩ = some (.pointer (some ⟨c.jb, 0, none⟩)) := ⟨h.cell 0, h.cell 1, h.cell 2⟩
theorem tail_r {L A : Nat} {a b c : JD} {wv : Value} {n : Nat} {xs : List Value} {w : World} (h : Held (boxE L A (arrA [a, b, c]) 32 :: tailE L 38 wv n xs :: (a.es L ++ (b.es L ++ c.es L))) w) : Tail w L 38 wv n xs := h.all (tailE L 38 wv n xs) (by simp)
theorem own_any {L g n c : Nat} {xs : List UInt8} {w : World} (h : w.ownsRow L 5 1 (.slice (some ⟨g, 0, none⟩) n c) n ((xs ++ mk2).map B)) (hx : xs.length + 2 = n) : w.ownsRow L 5 1 (.slice (some ⟨g, 0, none⟩) n c) (xs ++ mk2).length ((xs ++ mk2).map B) := by
  have : (xs ++ mk2).length = n := by rw [List.length_append]; exact hx
  rw [this]; exact h
section
variable {L A : Nat} {w : World} {ls : List (List UInt8)} {i : Nat} {wv : Value} {a b c : JD}
theorem perm_a (p q : Ent L) (X Y Z : List (Ent L)) : (p :: q :: (X ++ (Y ++ Z))).Perm (X ++ (p :: q :: (Y ++ Z))) := by
  have := List.perm_append_comm (l₁ := [p, q]) (l₂ := X)
  have h2 := List.Perm.append_right (Y ++ Z) this
  simpa [List.append_assoc] using h2
theorem perm_b (p q : Ent L) (X Y Z : List (Ent L)) : (p :: q :: (X ++ (Y ++ Z))).Perm (Y ++ (p :: q :: (X ++ Z))) := by
  refine List.Perm.trans ?_ (perm_a p q Y X Z)
  refine List.Perm.cons _ (List.Perm.cons _ ?_)
  rw [← List.append_assoc, ← List.append_assoc]
  exact List.Perm.append_right _ List.perm_append_comm
theorem perm_c (p q : Ent L) (X Y Z : List (Ent L)) : (p :: q :: (X ++ (Y ++ Z))).Perm (Z ++ (p :: q :: (X ++ Y))) := by
  refine List.Perm.trans ?_ (perm_a p q Z X Y)
  refine List.Perm.cons _ (List.Perm.cons _ ?_)
  rw [← List.append_assoc, ← List.append_assoc]
  exact (List.perm_append_comm (l₁ := X ++ Y)).trans (by rw [List.append_assoc])
/-- What is held of the three. -/
def H3 (L A : Nat) (w : World) (ls : List (List UInt8)) (wv : Value) (a b c : JD) (W : World) : Prop := ∃ xs, Held (boxE L A (arrA [a, b, c]) 32 :: tailE L 38 wv xs.length xs :: (a.es L ++ (b.es L ++ c.es L))) W ∧ Vals w xs ls
theorem arr_same {a b c a' : JD} : (a'.jb = a.jb → arrA [a', b, c] = arrA [a, b, c]) ∧ (a'.jb = b.jb → arrA [a, a', c] = arrA [a, b, c]) ∧ (a'.jb = c.jb → arrA [a, b, a'] = arrA [a, b, c]) := by
  refine ⟨fun h => ?_, fun h => ?_, fun h => ?_⟩ <;> simp [arrA, ptrA, h]
theorem H3.more {W W' : World} (h : H3 L A w ls wv a b c W) (hb : Below W.heap.size W W') : H3 L A w ls wv a b c W' := by
  obtain ⟨xs, h1, h2⟩ := h
  exact ⟨xs, h1.more hb, h2⟩
theorem H3.drewN {W : World} (h : H3 L A w ls wv a b c W) (q : Nat) : H3 L A w ls wv a b c (W.drewN q) := by
  obtain ⟨xs, h1, h2⟩ := h
  exact ⟨xs, h1.drewN q, h2⟩
theorem H3.box {W : World} (h : H3 L A w ls wv a b c W) : Blk W A (arrA [a, b, c]) 32 := by
  obtain ⟨xs, h1, h2⟩ := h
  exact h1.boxB
theorem H3.lo {W : World} (h : H3 L A w ls wv a b c W) : L ≤ W.heap.size := by
  obtain ⟨xs, h1, h2⟩ := h
  exact h1.lowL (k := A) rfl
theorem H3.first {W0 W : World} {g cc n : Nat} {bs : List UInt8} (h : H3 L A w ls wv a b c W0) (hb0 : Below W0.heap.size W0 W) (ha : a.Ok i) (hi : i < 12) (hr : W.ownsRow W0.heap.size 5 1 (.slice (some ⟨g, 0, none⟩) (n + 2) cc) (n + 2) ((bs ++ mk2).map B)) (hbl : bs.length = n) (hc : n + 2 ≤ cc) (hn : n ≤ 140737488355328) :
    Calls Try.prog 16 #[.pointer (some ⟨a.jb, 0, none⟩), .slice (some ⟨g, 0, none⟩) n cc] W fun e W' => e = .returned (.int .i64 (apC bs)) ∧ ∃ a', H3 L A w ls wv a' b c W' ∧ a'.jb = a.jb ∧ a'.Ok (i + 1) ∧ a'.ls = a.ls ++ apL bs ∧ a'.y.next = a.y.next + apN bs ∧ Below L W W' ∧ W'.ownsRow L 5 1 (.slice (some ⟨g, 0, none⟩) (n + 2) cc) (n + 2) ((bs ++ mk2).map B) ∧ (∀ W2, Chg (fun k => k = g) W' W2 → H3 L A w ls wv a' b c W2) := by
  obtain ⟨xs, h0, h2⟩ := h
  have h1 := h0.more hb0
  have hrow : Held (datE L (.slice (some ⟨g, 0, none⟩) (n + 2) cc, bs ++ mk2) :: boxE L A (arrA [a, b, c]) 32 :: tailE L 38 wv xs.length xs :: (a.es L ++ (b.es L ++ c.es L))) W := h1.add (own_any (ownsRow_mono hr (h0.lowL (k := A) rfl)) (by omega)) (fun k hk hh => by
    have e : some g = some k := hk
    cases e
    have := (h0.typ hh).2
    have := (ownsRow_lt hr (g := g) rfl).1
    omega)
  have h3 : Held (a.es L ++ (datE L (.slice (some ⟨g, 0, none⟩) (n + 2) cc, bs ++ mk2) :: boxE L A (arrA [a, b, c]) 32 :: tailE L 38 wv xs.length xs :: (b.es L ++ c.es L))) W := hrow.perm ((List.Perm.cons _ (perm_a _ _ _ _ _)).trans List.perm_middle.symm)
  refine (jd_append (bs := bs) W h3 ha hi (fun W2 _ hR => ?_) (by omega) hn).mono ?_
  · have h4 := hR.all _ (List.mem_cons_self ..)
    have h5 : W2.ownsRow L 5 1 (.slice (some ⟨g, 0, none⟩) (n + 2) cc) (bs ++ mk2).length ((bs ++ mk2).map B) := h4
    rw [show (bs ++ mk2).length = n + 2 by rw [List.length_append, hbl]; rfl] at h5
    exact own_front h5 hbl
  · rintro e W' ⟨rfl, a', e1, h4, h5, h6, h7, h8⟩
    have h9 : Held (datE L (.slice (some ⟨g, 0, none⟩) (n + 2) cc, bs ++ mk2) :: boxE L A (arrA [a', b, c]) 32 :: tailE L 38 wv xs.length xs :: (a'.es L ++ (b.es L ++ c.es L))) W' := by
      rw [arr_same.1 e1]
      exact h4.perm ((List.Perm.cons _ (perm_a _ _ _ _ _)).trans List.perm_middle.symm).symm
    have h10 : W'.ownsRow L 5 1 (.slice (some ⟨g, 0, none⟩) (n + 2) cc) (bs ++ mk2).length ((bs ++ mk2).map B) := h9.all _ (List.mem_cons_self ..)
    rw [show (bs ++ mk2).length = n + 2 by rw [List.length_append, hbl]; rfl] at h10
    exact ⟨rfl, a', ⟨xs, h9.drop, h2⟩, e1, h5, h6, h7, h8, h10, fun W2 hW2 => ⟨xs, Held.dropRow h9 hW2, h2⟩⟩
theorem H3.second {W : World} {uo : Option Addr} {uc n : Nat} {bs : List UInt8} (h : H3 L A w ls wv a b c W) (hb : b.Ok i) (hi : i < 12) (hby : ∀ W2, Below L W W2 → By W2 (.slice uo n uc) bs) (hc : n ≤ uc) (hn : n ≤ 140737488355328) :
    Calls Try.prog 16 #[.pointer (some ⟨b.jb, 0, none⟩), .slice uo n uc] W fun e W' => ∃ v, e = .returned v ∧ ∃ b', H3 L A w ls wv a b' c W' ∧ b'.Ok (i + 1) ∧ Below L W W' := by
  obtain ⟨xs, h1, h2⟩ := h
  refine (jd_append W (h1.perm (perm_b _ _ _ _ _)) hb hi (fun W2 hW _ => hby W2 hW) hc hn).mono ?_
  rintro e W' ⟨rfl, b', e1, h4, h5, h6, h7, h8⟩
  refine ⟨_, rfl, b', ⟨xs, ?_, h2⟩, h5, h8⟩
  rw [arr_same.2.1 e1]
  exact h4.perm (perm_b _ _ _ _ _).symm
theorem H3.third {W : World} {uo : Option Addr} {uc n : Nat} {bs : List UInt8} (h : H3 L A w ls wv a b c W) (hb : c.Ok i) (hi : i < 12) (hby : ∀ W2, Below L W W2 → By W2 (.slice uo n uc) bs) (hc : n ≤ uc) (hn : n ≤ 140737488355328) :
    Calls Try.prog 16 #[.pointer (some ⟨c.jb, 0, none⟩), .slice uo n uc] W fun e W' => e = .returned (.int .i64 (apC bs)) ∧ ∃ c', H3 L A w ls wv a b c' W' ∧ c'.Ok (i + 1) ∧ c'.ls = c.ls ++ apL bs ∧ c'.y.next = c.y.next + apN bs ∧ Below L W W' := by
  obtain ⟨xs, h1, h2⟩ := h
  refine (jd_append W (h1.perm (perm_c _ _ _ _ _)) hb hi (fun W2 hW _ => hby W2 hW) hc hn).mono ?_
  rintro e W' ⟨rfl, c', e1, h4, h5, h6, h7, h8⟩
  refine ⟨rfl, c', ⟨xs, ?_, h2⟩, h5, h6, h7, h8⟩
  rw [arr_same.2.2 e1]
  exact h4.perm (perm_c _ _ _ _ _).symm
theorem jd_room {W : World} {R : List (Ent L)} (h : Held (a.es L ++ R) W) (ha : a.Ok i) (hi : i ≤ 12) (q : Nat) : Calls Try.prog 18 #[.pointer (some ⟨a.jb, 0, none⟩)] (W.drewN q) fun e w' => e = .returned (.int .i64 ((300 - a.y.next : Nat) : Int)) ∧ ∃ m, w' = (W.drewN q).drewN m := by
  have h' : Held (a.y.es L a.jb ++ (dmE L a.y.p a.s a.x :: R)) W := by simpa [JD.es, List.append_assoc] using h
  have h1 := room_any (W.drewN q) (h'.drewN q) (by have := ha.next; have := ha.fin; omega) (by rw [ha.fin]; omega)
  rw [ha.fin] at h1
  exact h1
theorem H3.room1 {W : World} (h : H3 L A w ls wv a b c W) (ha : a.Ok i) (hi : i ≤ 12) (q : Nat) : Calls Try.prog 18 #[.pointer (some ⟨a.jb, 0, none⟩)] (W.drewN q) fun e w' => e = .returned (.int .i64 ((300 - a.y.next : Nat) : Int)) ∧ ∃ m, w' = (W.drewN q).drewN m := by
  obtain ⟨xs, h1, h2⟩ := h
  exact jd_room (h1.perm (perm_a _ _ _ _ _)) ha hi q
theorem H3.room3 {W : World} (h : H3 L A w ls wv a b c W) (ha : c.Ok i) (hi : i ≤ 12) (q : Nat) : Calls Try.prog 18 #[.pointer (some ⟨c.jb, 0, none⟩)] (W.drewN q) fun e w' => e = .returned (.int .i64 ((300 - c.y.next : Nat) : Int)) ∧ ∃ m, w' = (W.drewN q).drewN m := by
  obtain ⟨xs, h1, h2⟩ := h
  exact jd_room (h1.perm (perm_c _ _ _ _ _)) ha hi q
theorem H3.push {W : World} {uo : Option Addr} {n uc : Nat} {bs : List UInt8} (h : H3 L A w ls wv a b c W) (hl : ls.length ≤ 1000) (hb : By w (.slice uo n uc) bs) :
    ∃ v' w', (∀ ty, (Builtin.append_ #[30, 30] ty #[wv, .slice (some ⟨W.heap.size, 0, none⟩) 1 1]).run Try.prog (W.alloc (.cells #[.slice uo n uc] 38)) = .ok v' w') ∧ H3 L A w (ls ++ [bs]) v' a b c w' ∧ Below L W w' := by
  obtain ⟨xs, h1, h2⟩ := h
  have hL : L ≤ W.heap.size := h1.lowL (k := A) rfl
  have hx : xs.length ≤ 1000 := by rw [h2.1]; exact hl
  have h3 := h1.perm (List.Perm.swap ..)
  obtain ⟨v', w', hr, hH, hc, _, hat⟩ := h3.tailApp (t := 30) Try.underlying30 info30 rfl (.slice uo n uc) rfl (by omega) (by omega) hL
  refine ⟨v', w', hr, ⟨xs ++ [.slice uo n uc], ?_, h2.push hb⟩, hc.below hL (fun k hk => (tail_lt (h3.all _ (List.mem_cons_self ..)) k hk).1)⟩
  have := hH.perm (List.Perm.swap ..)
  simpa using this
theorem H3.tells1 {W : World} (h : H3 L A w ls wv a b c W) (ha : a.Ok i) (hi : i ≤ 12) (hl : a.ls = ls) (hw : Below w.heap.size w W) : Calls Try.prog 19 #[.pointer (some ⟨a.jb, 0, none⟩), wv] W fun e w' => e = .returned (.bool true) ∧ Below W.heap.size W w' := by
  obtain ⟨xs, h1, h2⟩ := h
  have h3 := h1.perm (perm_a _ _ _ _ _)
  have h' : Held (a.y.es L a.jb ++ ([dmE L a.y.p a.s a.x] ++ (boxE L A (arrA [a, b, c]) 32 :: tailE L 38 wv xs.length xs :: (b.es L ++ c.es L)))) W := by rw [← List.append_assoc]; exact h3
  exact tells_yes W h' hl ha.le (by have := ha.recs; omega) (rows_tail (tail_r h1) h2 (fun _ _ _ _ k => k.keep hw))
theorem H3.tells3 {W : World} (h : H3 L A w ls wv a b c W) (ha : c.Ok i) (hi : i ≤ 12) (hl : c.ls = ls) (hw : Below w.heap.size w W) : Calls Try.prog 19 #[.pointer (some ⟨c.jb, 0, none⟩), wv] W fun e w' => e = .returned (.bool true) ∧ Below W.heap.size W w' := by
  obtain ⟨xs, h1, h2⟩ := h
  have h3 := h1.perm (perm_c _ _ _ _ _)
  have h' : Held (c.y.es L c.jb ++ ([dmE L c.y.p c.s c.x] ++ (boxE L A (arrA [a, b, c]) 32 :: tailE L 38 wv xs.length xs :: (a.es L ++ b.es L)))) W := by rw [← List.append_assoc]; exact h3
  exact tells_yes W h' hl ha.le (by have := ha.recs; omega) (rows_tail (tail_r h1) h2 (fun _ _ _ _ k => k.keep hw))
end
end Go.Proofs.Ytjpdcahodmomgaa
