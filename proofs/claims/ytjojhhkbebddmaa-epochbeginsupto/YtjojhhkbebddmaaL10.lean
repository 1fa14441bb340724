import Derived.Test.YtjojhhkbebddmaaL9
namespace Go.Proofs.Ytjojhhkbebddmaa
open Go.RowKit Go.PlainAid
set_option linter.unusedVariables false
set_option linter.unusedSimpArgs false
/-- 'x & 1'. -/
theorem and1 (x : Int) : bits BinOp.and IntKind.i64 x 1 = 0 ∨ bits BinOp.and IntKind.i64 x 1 = 1 := by
  have h : ((BitVec.ofInt 64 x) &&& (BitVec.ofInt 64 1)).toNat ≤ 1 := by
    rw [BitVec.toNat_and]
    exact Nat.le_trans Nat.and_le_right (by decide)
  have h1 : bits BinOp.and IntKind.i64 x 1 = (((BitVec.ofInt 64 x) &&& (BitVec.ofInt 64 1)).toNat : Int) := by
    show IntKind.i64.wrap _ = _
    have h2 : (((BitVec.ofInt IntKind.i64.bits x) &&& (BitVec.ofInt IntKind.i64.bits 1)).toNat : Int) ≤ 1 := Int.ofNat_le.2 h
    rw [IntKind.wrap_i64]
    have h3 : (0 : Int) ≤ (((BitVec.ofInt IntKind.i64.bits x) &&& (BitVec.ofInt IntKind.i64.bits 1)).toNat : Int) := Int.natCast_nonneg _
    show ((((BitVec.ofInt IntKind.i64.bits x) &&& (BitVec.ofInt IntKind.i64.bits 1)).toNat : Int) + 9223372036854775808) % 18446744073709551616 - 9223372036854775808 = (((BitVec.ofInt IntKind.i64.bits x) &&& (BitVec.ofInt IntKind.i64.bits 1)).toNat : Int)
    omega
  rw [h1]
  omega
/-- One of the two sides. -/
inductive Sd where
  | no (pb : Nat)
  | yes (pb mb cb : Nat) (x : EV) (g : RG) (r : RV)
def Sd.pb : Sd → Nat
  | .no p => p
  | .yes p _ _ _ _ _ => p
def Sd.L (L : Nat) : Sd → List (Ent L)
  | .no p => [boxE L p #[.pointer none, .pointer none] 69]
  | .yes p mb cb x g r => [boxE L p #[.pointer (some ⟨mb, 0, none⟩), .pointer (some ⟨g.rb, 0, none⟩)] 69, mE L mb cb x, rE L g r]
def Sd.ok (c : Nat) : Sd → Prop
  | .no _ => True
  | .yes _ _ _ x _ r => Agr x r ∧ x.Nm ∧ r.sz ≤ c
theorem Sd.ok.up {c c' : Nat} {A : Sd} (h : A.ok c) (hc : c ≤ c') : A.ok c' := by
  cases A with
  | no p => trivial
  | yes p mb cb x g r => exact ⟨h.1, h.2.1, Nat.le_trans h.2.2 hc⟩
theorem AS.add {L : Nat} {own0 : Nat → Prop} {w0 w : World} {es : List (Ent L)} {e : Ent L} (h : AS own0 w0 es w) (hP : e.P w) (hn : ∀ k, e.bl k → ¬ has es k) (hw : ∀ k, e.bl k → w0.heap.size ≤ k) : AS own0 w0 (e :: es) w :=
  ⟨h.h.add hP hn, h.chg, fun k hk => by
    rcases has_cons.1 hk with q | q
    · exact .inr (hw k q)
    · exact h.new k q⟩
theorem side_begin {L pb : Nat} {own0 : Nat → Prop} {w0 : World} {Q : List (Ent L)} (me n : Int) (w : World) (h : AS own0 w0 (boxE L pb #[.pointer none, .pointer none] 69 :: Q) w) (hL : L ≤ w.heap.size) : Calls Try.prog 26 #[.pointer (some ⟨pb, 0, none⟩), .int .i64 me, .int .i64 n] w fun e w' => e = .returned (.bool true) ∧ ∃ A : Sd, A.pb = pb ∧ A.ok 0 ∧ AS own0 w0 (A.L L ++ Q) w' := by
  have hB : Blk w pb #[.pointer none, .pointer none] 69 := h.head.1
  have hlb : L ≤ pb := h.head.2
  by_cases hc : newC me n = 0
  · have hb : 0 ≤ me ∧ 0 ≤ n := by
      unfold newC at hc
      by_cases q : n < 2 ∨ 16 < n
      · rw [if_pos q] at hc; cases hc
      · rw [if_neg q] at hc
        by_cases q2 : me < 0 ∨ n ≤ me
        · rw [if_pos q2] at hc; cases hc
        · omega
    obtain ⟨m, rfl⟩ : ∃ m : Nat, me = (m : Int) := ⟨me.toNat, by omega⟩
    obtain ⟨k, rfl⟩ : ∃ k : Nat, n = (k : Int) := ⟨n.toNat, by omega⟩
    refine (begin_yes m k w hB hc).mono ?_
    rintro e w' ⟨rfl, mb, cb, g, h1, h2, h3, h4, h5⟩
    have hw0 := h.chg.size
    have hlt : ∀ q, has (boxE L pb #[.pointer none, .pointer none] 69 :: Q) q → q < w.heap.size := fun q hq => (h.h.typ hq).2
    have hA1 : AS own0 w0 (boxE L pb #[.pointer (some ⟨mb, 0, none⟩), .pointer (some ⟨g.rb, 0, none⟩)] 69 :: Q) w' := h.swap (e' := boxE L pb #[.pointer (some ⟨mb, 0, none⟩), .pointer (some ⟨g.rb, 0, none⟩)] 69) h5 ⟨h1, hlb⟩ (fun q hq => .inl hq)
    have hA2 : AS own0 w0 (rE L g ⟨m, k, [], [], [], false⟩ :: boxE L pb #[.pointer (some ⟨mb, 0, none⟩), .pointer (some ⟨g.rb, 0, none⟩)] 69 :: Q) w' := hA1.add (h3.low hL) (fun q hq hh => by
      have e1 := (h3.lt hq).1
      have e2 := hlt q (by rcases has_cons.1 hh with e | e; exact has_cons.2 (.inl e); exact has_cons.2 (.inr e))
      omega) (fun q hq => Nat.le_trans hw0 (h3.lt hq).1)
    have hA3 : AS own0 w0 (mE L mb cb (newX m k) :: rE L g ⟨m, k, [], [], [], false⟩ :: boxE L pb #[.pointer (some ⟨mb, 0, none⟩), .pointer (some ⟨g.rb, 0, none⟩)] 69 :: Q) w' := hA2.add (h2.low hL) (fun q hq hh => by
      rcases has_cons.1 hh with e | e
      · exact h4 q hq e
      · have e1 := (h2.lt hq).1
        have e2 := hlt q (by rcases has_cons.1 e with e | e; exact has_cons.2 (.inl e); exact has_cons.2 (.inr e))
        omega) (fun q hq => Nat.le_trans hw0 (h2.lt hq).1)
    refine ⟨rfl, .yes pb mb cb (newX m k) g ⟨m, k, [], [], [], false⟩, rfl, ⟨Agr.new m k, newX_nm m k hc, Nat.le_refl _⟩, ?_⟩
    exact hA3.perm (((List.Perm.swap _ _ _).cons _).trans (List.Perm.swap _ _ _))
  · refine (begin_no me n w hB hc).mono ?_
    rintro e w' ⟨rfl, h1, h2⟩
    exact ⟨rfl, .no pb, rfl, trivial, h.swap (e' := boxE L pb #[.pointer none, .pointer none] 69) h2 ⟨h1, hlb⟩ (fun q hq => .inl hq)⟩
end Go.Proofs.Ytjojhhkbebddmaa
