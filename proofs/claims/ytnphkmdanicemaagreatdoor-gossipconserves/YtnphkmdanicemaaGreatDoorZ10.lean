import Derived.Test.YtnphkmdanicemaaGreatDoorZD
import Derived.Test.YtnphkmdanicemaaGreatDoorJF
namespace Go.Proofs.YtnphkmdanicemaaGreatDoor
open Go.RowKit Go.PlainAid
set_option linter.unusedVariables false
set_option linter.unusedSimpArgs false
/-- A turn that came in. -/
structure Tn where
  k : Int
  wh : Int
  d : Int
  u : Int
def Tn.row (c : Tn) : Array Value := #[.int .i64 c.k, .int .i64 c.wh, .int .i64 c.d, .int .i64 c.u]
def i64 (z : Int) : Prop := -9223372036854775808 ≤ z ∧ z ≤ 9223372036854775807
def Tn.Ok (c : Tn) : Prop := i64 c.k ∧ i64 c.wh ∧ i64 c.d ∧ i64 c.u
def TurnIn (w : World) (lo : Option Addr) (xs : List Tn) : Prop := ∀ (i : Nat) (c : Tn), xs[i]? = some c → ∃ b o, lo = some ⟨b, o, none⟩ ∧ b < w.heap.size ∧ ∀ (j : Nat) (v : Value), c.row[j]? = some v → w.cell? ⟨b, o + i * 4 + j, none⟩ = some v
theorem TurnIn.more {w w' : World} {lo : Option Addr} {xs : List Tn} (h : TurnIn w lo xs) (hb : Below w.heap.size w w') : TurnIn w' lo xs := fun i c hc => by
  obtain ⟨b, o, e, h1, h2⟩ := h i c hc
  exact ⟨b, o, e, Nat.lt_of_lt_of_le h1 hb.size, fun j v hv => (hb.cell (p := ⟨b, o + i * 4 + j, none⟩) h1).trans (h2 j v hv)⟩
/-- The places and the numbers of needs, in memory. -/
structure Rn0 (L0 N ab cap nb : Nat) (ps : List Pl) (ns : List Int) (w0 w : World) : Prop where
  all : All L0 N ab cap ps w
  box : Blk w nb (ns.map I).toArray 27
  lo : L0 ≤ nb
  bel : Below L0 w0 w
section
variable {L0 N ab cap nb : Nat} {ps ps' : List Pl} {ns : List Int} {w0 w w' : World}
theorem Rn0.more (h : Rn0 L0 N ab cap nb ps ns w0 w) (hb : Below w.heap.size w w') : Rn0 L0 N ab cap nb ps ns w0 w' :=
  ⟨h.all.more hb, h.box.below hb h.box.lt, h.lo, h.bel.trans (hb.mono (Nat.le_of_lt (Nat.lt_of_le_of_lt h.all.ablt.1 h.all.ablt.2)))⟩
theorem Rn0.notown (h : Rn0 L0 N ab cap nb ps ns w0 w) : ¬ ownL ps nb := fun ⟨i, p, hp, hk⟩ => (h.all.pls.all i p hp).notT h.box (by decide) (by decide) (by decide) hk
theorem Rn0.upd (h : Rn0 L0 N ab cap nb ps ns w0 w) (hc : Chg (ownL ps) w w') (ha : All L0 N ab cap ps' w') : Rn0 L0 N ab cap nb ps' ns w0 w' :=
  ⟨ha, hc.blk h.box h.notown, h.lo, h.bel.trans (h.all.below hc)⟩
theorem Rn0.cell (h : Rn0 L0 N ab cap nb ps ns w0 w) {i : Nat} {z : Int} (hz : ns[i]? = some z) : w.cell? ⟨nb, i, none⟩ = some (.int .i64 z) := by
  rw [h.box.cell i]
  simp [hz, I]
theorem Rn0.setN (h : Rn0 L0 N ab cap nb ps ns w0 w) (i : Nat) (z : Int) : Rn0 L0 N ab cap nb ps (ns.set i z) w0 (w.setCell ⟨nb, i, none⟩ (.int .i64 z)) := by
  have hc := setCell_chg w nb i (.int .i64 z)
  have hab : ab ≠ nb := fun e => by
    obtain ⟨cur, hcur⟩ := ownsRow_type h.all.row (g := ab) rfl
    exact Blk.ne_t (show Blk w ab cur 34 from hcur) h.box (by decide) e
  refine ⟨h.all.keep hc (fun k e hk => h.notown (by rw [← e]; exact hk)) hab, ?_, h.lo, h.bel.trans (hc.below (Nat.le_of_lt (Nat.lt_of_le_of_lt h.all.ablt.1 h.all.ablt.2)) fun k e => by rw [e]; exact h.lo)⟩
  have := h.box.set i (.int .i64 z)
  rw [show (ns.map I).toArray.setIfInBounds i (.int .i64 z) = ((ns.set i z).map I).toArray from by simp [List.map_set, I]] at this
  exact this
end
/-- What holds ahead of each turn. -/
structure Rnd (L0 N ab cap nb : Nat) (dn up : Int) (t : Nat) (ps : List Pl) (ns : List Int) (w0 w : World) : Prop where
  r : Rn0 L0 N ab cap nb ps ns w0 w
  good : Good N dn up t ps
  nds : Nds t ps ns
theorem Rnd.more {L0 N ab cap nb t : Nat} {dn up : Int} {ps : List Pl} {ns : List Int} {w0 w w' : World} (h : Rnd L0 N ab cap nb dn up t ps ns w0 w) (hb : Below w.heap.size w w') : Rnd L0 N ab cap nb dn up t ps ns w0 w' := ⟨h.r.more hb, h.good, h.nds⟩
def sumTo (f : Pl → Int) (k : Nat) (ps : List Pl) : Int := ((ps.take k).map f).sum
theorem sumTo_step (f : Pl → Int) {k : Nat} {ps : List Pl} {p : Pl} (h : ps[k]? = some p) : sumTo f (k + 1) ps = sumTo f k ps + f p := by
  unfold sumTo
  rw [List.take_add_one, h]
  simp
theorem sumTo_le (f : Pl → Int) (k : Nat) (ps : List Pl) (hn : ∀ a ∈ ps, 0 ≤ f a) : 0 ≤ sumTo f k ps ∧ sumTo f k ps ≤ (ps.map f).sum := by
  refine ⟨sum_nonneg f _ fun a ha => hn a (List.mem_of_mem_take ha), ?_⟩
  have h1 : (ps.map f).sum = ((ps.take k).map f).sum + ((ps.drop k).map f).sum := by rw [← List.sum_append, ← List.map_append, List.take_append_drop]
  have h2 := sum_nonneg f (ps.drop k) fun a ha => hn a (List.mem_of_mem_drop ha)
  unfold sumTo
  omega
theorem wx_lt (x m : Int) (hm : 0 < m) : 0 ≤ wx x m ∧ wx x m < m := by
  unfold wx
  exact ⟨Int.emod_nonneg _ (by omega), Int.emod_lt_of_pos _ hm⟩
theorem within_nat (x : Int) (lo hi : Nat) (hx : i64 x) (h : lo ≤ hi) (h2 : hi ≤ 1000) : ∃ N : Nat, lo ≤ N ∧ N ≤ hi ∧ ∀ W, Calls Tryz.prog 6 #[.int .i64 x, .int .i64 (lo : Int), .int .i64 (hi : Int)] W fun e w' => e = .returned (.int .i64 (N : Int)) ∧ w' = W := by
  have hb := wx_lt x ((hi : Int) - lo + 1) (by omega)
  refine ⟨((lo : Int) + wx x ((hi : Int) - lo + 1)).toNat, by omega, by omega, fun W => ?_⟩
  have := within_any x lo hi W hx.1 hx.2 (by omega) (by omega) (by omega)
  rw [show ((((lo : Int) + wx x ((hi : Int) - lo + 1)).toNat : Nat) : Int) = (lo : Int) + wx x ((hi : Int) - lo + 1) by omega]
  exact this
theorem Start.good {N : Nat} {dn up : Int} {ps : List Pl} (h : Start dn up ps) (hl : ps.length = N) (hN : 0 < N) (h1 : 0 ≤ dn) (h2 : 0 ≤ up) (h3 : dn + up ≤ 1000) : Good N dn up 0 ps := by
  have hs0 : LOk (sIn dn up) := ⟨⟨h1, h2, by show (0 : Int) ≤ 0; decide, by show dn + up + 0 ≤ 1000; omega, by show (1 : Int) ≤ 1000; decide, by show (1000 : Int) ≤ 1099511627776; decide⟩, rfl, rfl⟩
  have hs1 : LOk s1000 := ⟨s1000_ok, rfl, rfl⟩
  refine ⟨hl, fun i p hp => by rw [(h i p hp).1]; exact lkOk_nil, fun i p hp => ?_, fun i p hp => by rw [(h i p hp).2.1]; exact VOk.nil _, ?_, ?_⟩
  · rw [(h i p hp).2.2]
    split
    · exact hs0
    · exact hs1
  · match ps, hl, h with
    | [], hl, _ => have h0 : (0 : Nat) = N := hl; omega
    | p :: t, hl, h =>
      have e0 := (h 0 p rfl).2.2
      have et : ∀ q ∈ t, q.s.d = 0 := fun q hq => by
        obtain ⟨j, hj⟩ := List.getElem?_of_mem hq
        have := (h (j + 1) q (by simpa using hj)).2.2
        rw [this]; rfl
      have : (t.map fun p => p.s.d).sum = 0 := by
        have : (t.map fun p => p.s.d) = t.map fun _ => (0 : Int) := List.map_congr_left et
        rw [this]
        exact (by intro l; induction l with
          | nil => rfl
          | cons a l ih => simp only [List.map_cons, List.sum_cons, ih]; rfl : ∀ l : List Pl, (l.map fun _ => (0 : Int)).sum = 0) t
      simp only [List.map_cons, List.sum_cons]
      rw [this, e0]
      show (sIn dn up).d + 0 = dn
      simp [sIn]
  · match ps, hl, h with
    | [], hl, _ => have h0 : (0 : Nat) = N := hl; omega
    | p :: t, hl, h =>
      have e0 := (h 0 p rfl).2.2
      have et : ∀ q ∈ t, q.s.u = 0 := fun q hq => by
        obtain ⟨j, hj⟩ := List.getElem?_of_mem hq
        have := (h (j + 1) q (by simpa using hj)).2.2
        rw [this]; rfl
      have : (t.map fun p => p.s.u).sum = 0 := by
        have : (t.map fun p => p.s.u) = t.map fun _ => (0 : Int) := List.map_congr_left et
        rw [this]
        exact (by intro l; induction l with
          | nil => rfl
          | cons a l ih => simp only [List.map_cons, List.sum_cons, ih]; rfl : ∀ l : List Pl, (l.map fun _ => (0 : Int)).sum = 0) t
      simp only [List.map_cons, List.sum_cons]
      rw [this, e0]
      show (sIn dn up).u + 0 = up
      simp [sIn]
end Go.Proofs.YtnphkmdanicemaaGreatDoor
