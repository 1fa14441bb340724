import Derived.Test.YtcnokgphioigoaaJq1
import Derived.Test.YtcnokgphioigoaaJn44
namespace Go.Proofs.Ytcnokgphioigoaa
open Go.RowKit Go.PlainAid
set_option linter.unusedVariables false
set_option linter.unusedSimpArgs false
/-- A desk, by its numbers. -/
structure DK where
  kb : Nat
  p : Nat
  s : Nat
  sb : Nat
  jb : Nat
  x : DV
  iv : Value
  on : Bool
  left : Int
  torn : Int
  hv : Value
  hs : List (Value × List UInt8)
  next : Nat
  dead : Bool
def DK.cs (d : DK) : Array Value := deskC d.p (.pointer (some ⟨d.jb, 0, none⟩)) d.iv d.on d.left d.torn d.hv d.next d.dead d.sb
/-- A desk in memory; its image has the bytes of xi, its journal is J. -/
def DK.es (d : DK) (L : Nat) (xi : DV) (J R : List (Ent L)) : List (Ent L) := boxE L d.kb d.cs 64 :: (haveE L d.hv d.hs ++ (imE L d.iv xi :: (J ++ (dmE L d.p d.s d.x :: R))))
def JE (L jb : Nat) (y : JV) (dead : Bool) : List (Ent L) := if dead = true then [boxE L jb deadA 79] else y.es L jb
/-- Program and document agree; dead or not, with the power on or off. -/
structure DKO (d : DK) (y : JV) : Prop where
  n1 : 1 ≤ d.x.n
  n2 : d.x.n ≤ 1000
  eon : d.on = !d.x.off
  arm : d.x.armed = true → d.x.off = false ∧ d.left = (d.x.whole : Int) ∧ d.x.torn = tornN d.torn
  dis : d.x.armed = false → d.left = -1
  wh : d.x.whole ≤ 9223372036854775807
  tn : d.x.torn ≤ 512
  tb : -9223372036854775808 ≤ d.torn ∧ d.torn ≤ 9223372036854775807
  ehv : ∃ ao c, d.hv = Value.slice ao d.hs.length c
  hl : d.hs.length ≤ d.next
  le : d.next ≤ d.x.n
  live : d.dead = false → y.p = d.p ∧ y.recs.map Prod.snd = d.hs.map Prod.snd ∧ y.next = d.next ∧ y.fin = d.x.n ∧ ∀ r ∈ y.recs, r.2.length ≤ 8192
structure DSame (d d' : DK) : Prop where
  kb : d'.kb = d.kb
  p : d'.p = d.p
  s : d'.s = d.s
  sb : d'.sb = d.sb
  n : d'.x.n = d.x.n
theorem DSame.refl (d : DK) : DSame d d := ⟨rfl, rfl, rfl, rfl, rfl⟩
theorem DSame.trans {a b c : DK} (h : DSame a b) (k : DSame b c) : DSame a c := ⟨k.kb.trans h.kb, k.p.trans h.p, k.s.trans h.s, k.sb.trans h.sb, k.n.trans h.n⟩
/-- What a call of the document's appends leaves. -/
def ApQ (L : Nat) (d : DK) (vn : Nat) (R : List (Ent L)) (w : World) (e : Ending) (w' : World) : Prop := e = .returned (.bool true) ∧ ∃ d' y', Held (d'.es L d'.x (JE L d'.jb y' d'.dead) R) w' ∧ DKO d' y' ∧ DSame d d' ∧ d'.x.writes ≤ d.x.writes + kS (min vn 8192) ∧ Below L w w'
section
variable {L : Nat} {d : DK} {xi : DV} {J J' R : List (Ent L)} {E : Ent L} {w w' : World} {y : JV}
theorem dk_j (h : Held (E :: d.es L xi J R) w) : Held (J ++ (dmE L d.p d.s d.x :: (E :: boxE L d.kb d.cs 64 :: (haveE L d.hv d.hs ++ (imE L d.iv xi :: R))))) w := by
  refine h.perm ?_
  have e := List.Perm.append_right R (List.perm_append_comm (l₁ := E :: boxE L d.kb d.cs 64 :: (haveE L d.hv d.hs ++ [imE L d.iv xi])) (l₂ := J ++ [dmE L d.p d.s d.x]))
  simpa [DK.es, List.append_assoc] using e
theorem dk_of {x' : DV} (h : Held (J' ++ (dmE L d.p d.s x' :: (E :: boxE L d.kb d.cs 64 :: (haveE L d.hv d.hs ++ (imE L d.iv xi :: R))))) w) : Held (E :: ({ d with x := x' } : DK).es L xi J' R) w := by
  refine h.perm ?_
  have e := List.Perm.append_right R (List.perm_append_comm (l₁ := J' ++ [dmE L d.p d.s x']) (l₂ := E :: boxE L d.kb d.cs 64 :: (haveE L d.hv d.hs ++ [imE L d.iv xi])))
  have ec : ({ d with x := x' } : DK).cs = d.cs := rfl
  simpa [DK.es, ec, List.append_assoc] using e
theorem dk_j0 (h : Held (d.es L xi J R) w) : Held (J ++ (dmE L d.p d.s d.x :: (boxE L d.kb d.cs 64 :: (haveE L d.hv d.hs ++ (imE L d.iv xi :: R))))) w := by
  refine h.perm ?_
  have e := List.Perm.append_right R (List.perm_append_comm (l₁ := boxE L d.kb d.cs 64 :: (haveE L d.hv d.hs ++ [imE L d.iv xi])) (l₂ := J ++ [dmE L d.p d.s d.x]))
  simpa [DK.es, List.append_assoc] using e
theorem dk_of0 {x' : DV} (h : Held (J' ++ (dmE L d.p d.s x' :: (boxE L d.kb d.cs 64 :: (haveE L d.hv d.hs ++ (imE L d.iv xi :: R))))) w) : Held (({ d with x := x' } : DK).es L xi J' R) w := by
  refine h.perm ?_
  have e := List.Perm.append_right R (List.perm_append_comm (l₁ := J' ++ [dmE L d.p d.s x']) (l₂ := boxE L d.kb d.cs 64 :: (haveE L d.hv d.hs ++ [imE L d.iv xi])))
  have ec : ({ d with x := x' } : DK).cs = d.cs := rfl
  simpa [DK.es, ec, List.append_assoc] using e
theorem dk_box (h : Held (d.es L xi J R) w) : Blk w d.kb d.cs 64 := Held.boxB h
theorem dk_im (h : Held (d.es L xi J R) w) : w.ownsRow L 5 1 d.iv (xi.n * 512) ((imgL xi).map B) := h.all (imE L d.iv xi) (by simp [DK.es])
theorem dk_dm (h : Held (d.es L xi J R) w) : DM L d.p d.s d.x w := h.all (dmE L d.p d.s d.x) (by simp [DK.es])
theorem dk_lo (h : Held (d.es L xi J R) w) : L ≤ w.heap.size := Held.lowL (e := boxE L d.kb d.cs 64) h (k := d.kb) rfl
theorem dk_kb (h : Held (d.es L xi J R) w) : L ≤ d.kb := (h.all (boxE L d.kb d.cs 64) (List.mem_cons_self ..)).2
/-- A cell of the desk is written. -/
theorem dk_setE {j : Nat} {v : Value} {d' : DK} (h : Held (E :: d.es L xi J R) w) (hk : d'.kb = d.kb) (hc : d'.cs = d.cs.setIfInBounds j v) (h1 : d'.hv = d.hv) (h2 : d'.hs = d.hs) (h3 : d'.iv = d.iv) (h4 : d'.p = d.p) (h5 : d'.s = d.s) (h6 : d'.x = d.x) : Held (E :: d'.es L xi J R) (w.setCell ⟨d.kb, j, none⟩ v) := by
  have h9 := ((h.perm (List.Perm.swap ..)).boxSet j v).perm (List.Perm.swap ..)
  unfold DK.es
  rw [hk, hc, h1, h2, h3, h4, h5, h6]
  exact h9
theorem dk_set {j : Nat} {v : Value} {d' : DK} (h : Held (d.es L xi J R) w) (hk : d'.kb = d.kb) (hc : d'.cs = d.cs.setIfInBounds j v) (h1 : d'.hv = d.hv) (h2 : d'.hs = d.hs) (h3 : d'.iv = d.iv) (h4 : d'.p = d.p) (h5 : d'.s = d.s) (h6 : d'.x = d.x) : Held (d'.es L xi J R) (w.setCell ⟨d.kb, j, none⟩ v) := by
  have h9 := Held.boxSet h j v
  unfold DK.es
  rw [hk, hc, h1, h2, h3, h4, h5, h6]
  exact h9
theorem dk_setB {j : Nat} {v : Value} (h : Held (d.es L xi J R) w) : Below L w (w.setCell ⟨d.kb, j, none⟩ v) := (setCell_chg _ _ _ _).below (dk_lo h) (fun k e => by rw [e]; exact dk_kb h)
/-- What the program's Append leaves. -/
def ApMidG (L : Nat) (d : DK) (xi : DV) (E : Ent L) (R : List (Ent L)) (w : World) (Q : List (Ent L) → DV → Prop) (wy : World) : Prop := ∃ J' x', Held (E :: ({ d with x := x' } : DK).es L xi J' R) wy ∧ Below L w wy ∧ Q J' x'
theorem mid_liftG {w1 : World} {code : Int} {args : Array Value} {Q : List (Ent L) → DV → Prop} (hb1 : Below L w w1) (h1 : Held (E :: d.es L xi J R) w1)
    (hap : ∀ W, Held (J ++ (dmE L d.p d.s d.x :: (E :: boxE L d.kb d.cs 64 :: (haveE L d.hv d.hs ++ (imE L d.iv xi :: R))))) W → Calls Try.prog 16 args W fun e W' => e = .returned (.int .i64 code) ∧ ∃ J' x', Held (J' ++ (dmE L d.p d.s x' :: (E :: boxE L d.kb d.cs 64 :: (haveE L d.hv d.hs ++ (imE L d.iv xi :: R))))) W' ∧ Below L W W' ∧ Q J' x') (q : Nat) :
    Calls Try.prog 16 args (w1.drewN q) fun e W' => e = .returned (.int .i64 code) ∧ ApMidG L d xi E R w Q W' := by
  refine (hap (w1.drewN q) ((dk_j h1).drewN q)).mono ?_
  rintro e W' ⟨rfl, J', x', h2, h3, h4⟩
  exact ⟨rfl, J', x', dk_of h2, (below_dr hb1 q).trans h3, h4⟩
/-- Append of a journal that is dead, or whose disk is off. -/
theorem ap_dead {jb : Nat} {T : List (Ent L)} {vo : Option Addr} {n c : Nat} (W : World) (h : Held ([boxE L jb deadA 79] ++ T) W) : Calls Try.prog 16 #[.pointer (some ⟨jb, 0, none⟩), .slice vo n c] W fun e W' => e = .returned (.int .i64 200) ∧ Held ([boxE L jb deadA 79] ++ T) W' ∧ Below L W W' := by
  have hB := h.all (boxE L jb deadA 79) (by simp)
  refine (append_deadG W hB.1).mono ?_
  rintro e W' ⟨rfl, h1, h2⟩
  exact ⟨rfl, Held.swap (e := boxE L jb deadA 79) (e' := boxE L jb deadA 79) (R := T) h h2 ⟨h1, hB.2⟩ (fun k hk => Or.inl hk), h2.below (Nat.le_trans hB.2 (Nat.le_of_lt hB.1.lt)) (fun k hk => by rw [hk]; exact hB.2)⟩
theorem ap_off {jb s : Nat} {x : DV} {T : List (Ent L)} {vo : Option Addr} {n c : Nat} (W : World) (h : Held (y.es L jb ++ (dmE L y.p s x :: T)) W) (ho : x.off = true) : Calls Try.prog 16 #[.pointer (some ⟨jb, 0, none⟩), .slice vo n c] W fun e W' => e = .returned (.int .i64 200) ∧ Held ([boxE L jb deadA 79] ++ (dmE L y.p s x :: T)) W' ∧ Below L W W' := by
  have hB := h.all (boxE L jb y.cs 79) (by simp [JV.es])
  have hD : DM L y.p s x W := h1d h
  refine (append_offG W hB.1 hD ho).mono ?_
  rintro e W' ⟨rfl, h1, h2⟩
  have h7 : Held (boxE L jb y.cs 79 :: (dmE L y.p s x :: T)) W := Held.subl h (by
    show List.Sublist _ (boxE L jb y.cs 79 :: (tailE L 38 y.rv y.recs.length (y.recs.map Prod.fst) :: y.recs.map (datE L)) ++ _)
    exact List.Sublist.cons_cons _ (List.sublist_append_right _ _))
  exact ⟨rfl, h7.swap (e' := boxE L jb deadA 79) h2 ⟨h1, hB.2⟩ (fun k hk => Or.inl hk), h2.below (Nat.le_trans hB.2 (Nat.le_of_lt hB.1.lt)) (fun k hk => by rw [hk]; exact hB.2)⟩
end
end Go.Proofs.Ytcnokgphioigoaa
