import Derived.Test.YtjpdcahodmomgaaJt7
import Derived.Test.YtjpdcahodmomgaaJn20
namespace Go.Proofs.Ytjpdcahodmomgaa
open Go.RowKit Go.PlainAid
set_option linter.unusedVariables false
set_option linter.unusedSimpArgs false
/-- Lists of bytes that a slice holds, with the values that stand there. -/
def RowsV (w : World) (v : Value) (ds : List (Value × List UInt8)) : Prop := ∃ ao c, v = .slice ao ds.length c ∧ ∀ i d, ds[i]? = some d → (∃ b off, ao = some ⟨b, off, none⟩ ∧ w.cell? ⟨b, off + i, none⟩ = some d.1) ∧ By w d.1 d.2
/-- A journal in use, on a disk that is on: what it has is what must be there. -/
structure LI (L jb p s n0 W0 : Nat) (af : Int) (R : List (Ent L)) (w : World) (y : JV) (x : DV) (must : List (List UInt8)) (wr : World) : Prop where
  h : Held (y.es L jb ++ (dmE L p s x :: R)) wr
  b : Below L w wr
  p : y.p = p
  fin : y.fin = n0
  recs : y.recs.map Prod.snd = must
  next : y.next = (itR x.b must.length).2
  inv : Inv x.b n0 must
  n : x.n = n0
  n60 : n0 ≤ 60
  off : x.off = false
  torn : x.torn ≤ 512
  whole : x.whole ≤ 9223372036854775807
  writes : x.writes ≤ W0 + y.next
  w0 : W0 ≤ 800000000000000000
  armed : x.armed = true → 0 ≤ af
section
variable {L jb p s n0 W0 : Nat} {af : Int} {R : List (Ent L)} {w : World} {y : JV} {x : DV} {must : List (List UInt8)} {wr : World}
theorem LI.len (h : LI L jb p s n0 W0 af R w y x must wr) : y.recs.length = must.length := by rw [← h.recs, List.length_map]
theorem LI.le (h : LI L jb p s n0 W0 af R w y x must wr) : must.length ≤ y.next ∧ y.next ≤ n0 := by
  have := Upto.le h.inv.up
  rw [h.next]
  exact ⟨this.1, this.2.1⟩
theorem LI.more {wr' : World} (h : LI L jb p s n0 W0 af R w y x must wr) (hb : Below wr.heap.size wr wr') : LI L jb p s n0 W0 af R w y x must wr' := ⟨h.h.more hb, h.b.trans (hb.mono (jlow h.h)), h.p, h.fin, h.recs, h.next, h.inv, h.n, h.n60, h.off, h.torn, h.whole, h.writes, h.w0, h.armed⟩
theorem LI.drewN (h : LI L jb p s n0 W0 af R w y x must wr) (q : Nat) : LI L jb p s n0 W0 af R w y x must (wr.drewN q) := ⟨h.h.drewN q, below_dr h.b q, h.p, h.fin, h.recs, h.next, h.inv, h.n, h.n60, h.off, h.torn, h.whole, h.writes, h.w0, h.armed⟩
/-- The rest may be another one. -/
theorem LI.rest {R' : List (Ent L)} {wr' : World} (h : LI L jb p s n0 W0 af R w y x must wr) (hh : Held (y.es L jb ++ (dmE L p s x :: R')) wr') (hb : Below L w wr') : LI L jb p s n0 W0 af R' w y x must wr' := ⟨hh, hb, h.p, h.fin, h.recs, h.next, h.inv, h.n, h.n60, h.off, h.torn, h.whole, h.writes, h.w0, h.armed⟩
theorem LI.room (h : LI L jb p s n0 W0 af R w y x must wr) : Calls Try.prog 18 #[.pointer (some ⟨jb, 0, none⟩)] wr fun e w' => e = .returned (.int .i64 ((n0 - y.next : Nat) : Int)) ∧ ∃ q, w' = wr.drewN q := by
  have := room_any wr h.h (by rw [h.fin]; exact h.le.2) (by rw [h.fin]; have := h.n60; omega)
  rw [h.fin] at this
  exact this
theorem LI.lenC (h : LI L jb p s n0 W0 af R w y x must wr) : Calls Try.prog 31 #[.pointer (some ⟨jb, 0, none⟩)] wr fun e w' => e = .returned (.int .i64 (must.length : Int)) ∧ w' = wr := by
  have := len_any wr h.h (by rw [h.len]; have := h.le; have := h.n60; omega)
  rw [h.len] at this
  exact this
theorem LI.dead (h : LI L jb p s n0 W0 af R w y x must wr) : Calls Try.prog 43 #[.pointer (some ⟨jb, 0, none⟩)] wr fun e w' => e = .returned (.bool false) ∧ w' = wr := dead_any wr h.h
/-- What an append of a journal in use leaves. -/
inductive LA (L jb p s n0 W0 : Nat) (af : Int) (R : List (Ent L)) (w : World) (y : JV) (x : DV) (must : List (List UInt8)) (bs : List UInt8) (n : Nat) (e : Ending) (w' : World) : Prop
  | long (hn : 8192 < n) (he : e = .returned (.int .i64 2)) (h : LI L jb p s n0 W0 af R w y x must w')
  | full (hn : n ≤ 8192) (hr : n0 - y.next < 17) (he : e = .returned (.int .i64 211)) (h : LI L jb p s n0 W0 af R w y x must w')
  | ok (hn : n ≤ 8192) (he : e = .returned (.int .i64 0)) (h : ∃ y' x', y.next < y'.next ∧ LI L jb p s n0 W0 af R w y' x' (must ++ [bs]) w')
  | torn (hn : n ≤ 8192) (ha : 0 ≤ af) (he : e = .returned (.int .i64 200)) (h : ∃ x', x'.off = true ∧ x'.n = n0 ∧ x'.writes ≤ W0 + 100 ∧ Held (boxE L jb deadA 80 :: dmE L p s x' :: R) w' ∧ Below L w w' ∧ (Inv x'.b n0 must ∨ Inv x'.b n0 (must ++ [bs])))
theorem perm_lent {α : Type} (a : α) (X Z : List α) (d : α) : (a :: (X ++ d :: Z)).Perm (X ++ (d :: a :: Z)) := by
  have := (List.perm_middle (a := a) (l₁ := X ++ [d]) (l₂ := Z)).symm
  simpa [List.append_assoc] using this
theorem LI.append (h : LI L jb p s n0 W0 af R w y x must wr) {g cc n : Nat} {bs : List UInt8} (wl : World) (hb : Below wr.heap.size wr wl) (hr : wl.ownsRow wr.heap.size 5 1 (.slice (some ⟨g, 0, none⟩) (n + 2) cc) (n + 2) ((bs ++ mk2).map B)) (hbl : bs.length = n) (hc : n + 2 ≤ cc) (hn : n ≤ 140737488355328) :
    Calls Try.prog 16 #[.pointer (some ⟨jb, 0, none⟩), .slice (some ⟨g, 0, none⟩) n cc] wl fun e w' => LA L jb p s n0 W0 af R w y x must bs n e w' := by
  have hL := jlow h.h
  have hle := h.le
  have h60 := h.n60
  have hw0 := h.w0
  have hwr := h.writes
  have hrl := h.len
  have hbL : Below L w wl := h.b.trans (hb.mono hL)
  have hpp := h.p
  subst hpp
  have hlen : (bs ++ mk2).length = n + 2 := by rw [List.length_append, hbl]; rfl
  have h1 : Held (datE L (.slice (some ⟨g, 0, none⟩) (n + 2) cc, bs ++ mk2) :: (y.es L jb ++ (dmE L y.p s x :: R))) wl := Held.fresh h.h hb (show wl.ownsRow L 5 1 _ (bs ++ mk2).length _ by rw [hlen]; exact ownsRow_mono hr hL) (fun k hk => (ownsRow_lt hr hk).1)
  have h2 : Held (y.es L jb ++ (dmE L y.p s x :: datE L (.slice (some ⟨g, 0, none⟩) (n + 2) cc, bs ++ mk2) :: R)) wl := h1.perm (perm_lent ..)
  have hby : ∀ W, Below L wl W → Held (datE L (.slice (some ⟨g, 0, none⟩) (n + 2) cc, bs ++ mk2) :: R) W → By W (.slice (some ⟨g, 0, none⟩) n cc) bs := fun W _ hW => by
    have h3 : W.ownsRow L 5 1 (.slice (some ⟨g, 0, none⟩) (n + 2) cc) (bs ++ mk2).length ((bs ++ mk2).map B) := hW.all _ (List.mem_cons_self ..)
    rw [hlen] at h3
    exact own_front h3 hbl
  have hsub : ∀ {es : List (Ent L)} {d : Ent L} {W : World}, Held (es ++ (d :: datE L (.slice (some ⟨g, 0, none⟩) (n + 2) cc, bs ++ mk2) :: R)) W → Held (es ++ (d :: R)) W := fun hW => Held.subl hW (List.Sublist.append (List.Sublist.refl _) (List.Sublist.cons_cons _ (List.Sublist.cons _ (List.Sublist.refl _))))
  by_cases h8 : n ≤ 8192
  · by_cases hsp : y.next + kS n ≤ n0
    · have hinv : Inv x.b x.n must := by rw [h.n]; exact h.inv
      have hnx := h.next
      have hsp2 : (itR x.b must.length).2 + kS bs.length ≤ x.n := by rw [← hnx, hbl, h.n]; exact hsp
      have hb8 : bs.length ≤ 8192 := by omega
      refine (append_gen wl h2 hby (by omega) h8 h.off h.torn h.whole (by omega) (by omega) (by rw [h.fin]; exact hsp) (by rw [h.fin, h.n]) (by rw [h.n]; omega)).mono ?_
      rintro e w' (⟨g0, g1, rv', v', g2, g3⟩ | ⟨g0, g1, g2, g3, g4⟩)
      · have hw := wroteX_arm x (y.recs.length + 1) y.next bs (kS n) g0
        have hi := hinv.wrote hb8 hsp2
        rw [← hnx, hbl] at hi
        rw [hrl] at hw g2
        refine .ok h8 g1 ⟨_, wroteX x (must.length + 1) y.next bs (kS n), ?_, hsub g2, hbL.trans g3, rfl, h.fin, ?_, ?_, ?_, ?_, h60, ?_, ?_, ?_, ?_, hw0, ?_⟩
        · have := kS_pos bs.length
          show y.next < y.next + kS bs.length
          omega
        · show (y.recs ++ [(v', bs)]).map Prod.snd = _
          rw [List.map_append, h.recs]; rfl
        · show y.next + kS bs.length = _
          rw [hi.2, hbl]
        · rw [← h.n]; exact hi.1
        · rw [hw.2.1]; exact h.n
        · rw [hw.1]; exact h.off
        · rw [hw.2.2.2.1]; exact h.torn
        · rw [hw.2.2.2.2.1]; have := h.whole; split <;> omega
        · show (wroteX x (must.length + 1) y.next bs (kS n)).writes ≤ W0 + (y.next + kS bs.length)
          rw [hw.2.2.2.2.2, hbl]; omega
        · rw [hw.2.2.1]; exact h.armed
      · have hw := wroteX_arm x (y.recs.length + 1) y.next bs x.whole (fun _ => Nat.le_refl _)
        have hi := hinv.torn (m := x.whole) hb8 hsp2 h.torn (by rw [hbl]; exact g1)
        rw [← hnx, h.n] at hi
        rw [hrl] at hw g3
        have hk := kS_le n h8
        refine .torn h8 (h.armed g0) g2 ⟨tornX x (must.length + 1) y.next bs x.whole, rfl, hw.2.1.trans h.n, ?_, ?_, hbL.trans g4, hi⟩
        · show (wroteX x (must.length + 1) y.next bs x.whole).writes + 1 ≤ W0 + 100
          rw [hw.2.2.2.2.2]; omega
        · exact hsub (es := [boxE L jb deadA 80]) g3
    · refine (append_room wl h2 hby (by omega) h8 h.off (by omega) (by rw [h.fin]; omega) (by rw [h.fin]; exact hle.2) (by rw [h.fin, h.n]) (by rw [h.n]; omega)).mono ?_
      rintro e w' ⟨g1, g2, g3⟩
      have hk := kS_le n h8
      exact .full h8 (by omega) g1 (h.rest (hsub g2) (hbL.trans g3))
  · refine (append_long wl h2 (by omega) (by omega) h.off).mono ?_
    rintro e w' ⟨g1, g2, g3⟩
    exact .long (by omega) g1 (h.rest (hsub g2) (hbL.trans g3))
end
end Go.Proofs.Ytjpdcahodmomgaa
