import Derived.Test.YtjojhhkbebddmaaJoinK
import Derived.Test.YtjojhhkbebddmaaRows
import Derived.WalkKit
import Derived.ProofKit
import Derived.OpenShut
import Derived.SizedLaws
namespace Go.Proofs.Ytjojhhkbebddmaa
open Go.RowKit Go.PlainAid
set_option linter.unusedVariables false
set_option linter.unusedSimpArgs false
theorem played_any {σ : Type} {L kb pb mb cb : Nat} {K : Keeper σ L kb} {hK : KFr K} {s : σ} {x : EV} {g : RG} {r : RV} {R : List (Ent L)} {own0 : Nat → Prop} {w0 : World} (c : Cl) (w : World) (h : AS own0 w0 (pES K hK s pb mb cb x g r R) w) (ha : Agr x r) (hx : x.Nm) (hsz : r.sz ≤ 999999980) (hcnt : K.cnt s ≤ 999999999900) : Calls Try.prog 27 #[.pointer (some ⟨pb, 0, none⟩), .agg c.cells, .pointer (some ⟨kb, 0, none⟩)] w fun e w' => e = .returned (.bool true) ∧ ∃ s' x' g' r', AS own0 w0 (pES K hK s' pb mb cb x' g' r' R) w' ∧ K.cnt s' ≤ K.cnt s + 36 ∧ Agr x' r' ∧ x'.Nm ∧ r'.sz ≤ r.sz + 4 := by
  obtain ⟨who, kind, lim, rts, hld, all, own, frm, ⟨a, b⟩, ⟨c, d⟩⟩ := c
  obtain ⟨er, ek, hE⟩ : ∃ er ek, liveE x x.me = ⟨er, ek⟩ := ⟨_, _, rfl⟩
  by_cases k1 : kind = 1
  · subst k1
    cases own
    · refine (pl_1_false who lim rts hld frm a b c d er ek all w h ha hx hsz hcnt hE).mono ?_
      rintro e w' ⟨rfl, s', g', h1, h2⟩
      exact ⟨rfl, s', _, g', _, h1, h2, ha.beg hx lim rts hld all, begX_nm hx lim rts hld all, by have := begR_sz x r lim rts hld all; omega⟩
    · refine (pl_1_true who lim rts hld frm a b c d er ek all w h ha hx hsz hcnt hE).mono ?_
      rintro e w' ⟨rfl, s', g', h1, h2⟩
      exact ⟨rfl, s', _, g', _, h1, h2, ha.beg hx lim rts hld all, begX_nm hx lim rts hld all, by have := begR_sz x r lim rts hld all; omega⟩
  by_cases k2 : kind = 2
  · subst k2
    cases own
    · refine (pl_2_false who lim rts hld frm a b c d er ek all w h ha hx hsz hcnt hE).mono ?_
      rintro e w' ⟨rfl, s', g', h1, h2⟩
      exact ⟨rfl, s', _, g', _, h1, h2, ha.en e0 ⟨a, b⟩ _, enX_nm hx e0 ⟨a, b⟩, enR_sz x r e0 ⟨a, b⟩⟩
    · refine (pl_2_true who lim rts hld frm a b c d er ek all w h ha hx hsz hcnt hE).mono ?_
      rintro e w' ⟨rfl, s', g', h1, h2⟩
      exact ⟨rfl, s', _, g', _, h1, h2, ha.en e0 ⟨er, ek⟩ _, enX_nm hx e0 ⟨er, ek⟩, enR_sz x r e0 ⟨er, ek⟩⟩
  by_cases k3 : kind = 3
  · subst k3
    cases own
    · refine (pl_3_false who lim rts hld frm a b c d er ek all w h ha hx hsz hcnt hE).mono ?_
      rintro e w' ⟨rfl, s', g', h1, h2⟩
      exact ⟨rfl, s', _, g', _, h1, h2, ha.en ⟨a, b⟩ ⟨c, d⟩ _, enX_nm hx ⟨a, b⟩ ⟨c, d⟩, enR_sz x r ⟨a, b⟩ ⟨c, d⟩⟩
    · refine (pl_3_true who lim rts hld frm a b c d er ek all w h ha hx hsz hcnt hE).mono ?_
      rintro e w' ⟨rfl, s', g', h1, h2⟩
      exact ⟨rfl, s', _, g', _, h1, h2, ha.en ⟨er, ek⟩ ⟨c, d⟩ _, enX_nm hx ⟨er, ek⟩ ⟨c, d⟩, enR_sz x r ⟨er, ek⟩ ⟨c, d⟩⟩
  by_cases k4 : kind = 4
  · subst k4
    cases own
    · refine (pl_4_false who lim rts hld frm a b c d er ek all w h ha hx hsz hcnt hE).mono ?_
      rintro e w' ⟨rfl, s', g', h1, h2⟩
      exact ⟨rfl, s', _, g', _, h1, h2, ha.rep frm ⟨a, b⟩ hld, hx.repX frm ⟨a, b⟩ hld, by have := repR_sz x r frm ⟨a, b⟩ hld; omega⟩
    · refine (pl_4_true who lim rts hld frm a b c d er ek all w h ha hx hsz hcnt hE).mono ?_
      rintro e w' ⟨rfl, s', g', h1, h2⟩
      exact ⟨rfl, s', _, g', _, h1, h2, ha.rep frm ⟨er, ek⟩ hld, hx.repX frm ⟨er, ek⟩ hld, by have := repR_sz x r frm ⟨er, ek⟩ hld; omega⟩
  by_cases k5 : kind = 5
  · subst k5
    cases own
    · refine (pl_5_false who lim rts hld frm a b c d er ek all w h ha hx hsz hcnt hE).mono ?_
      rintro e w' ⟨rfl, s', g', h1, h2⟩
      exact ⟨rfl, s', _, g', _, h1, h2, ha, hx, by omega⟩
    · refine (pl_5_true who lim rts hld frm a b c d er ek all w h ha hx hsz hcnt hE).mono ?_
      rintro e w' ⟨rfl, s', g', h1, h2⟩
      exact ⟨rfl, s', _, g', _, h1, h2, ha, hx, by omega⟩
  by_cases k6 : kind = 6
  · subst k6
    cases own
    · refine (pl_6_false who lim rts hld frm a b c d er ek all w h ha hx hsz hcnt hE).mono ?_
      rintro e w' ⟨rfl, s', g', h1, h2⟩
      exact ⟨rfl, s', _, g', _, h1, h2, ha.fin, finX_nm hx, by have := finR_sz x r; omega⟩
    · refine (pl_6_true who lim rts hld frm a b c d er ek all w h ha hx hsz hcnt hE).mono ?_
      rintro e w' ⟨rfl, s', g', h1, h2⟩
      exact ⟨rfl, s', _, g', _, h1, h2, ha.fin, finX_nm hx, by have := finR_sz x r; omega⟩
  have j1 : (kind == 1) = false := by simpa using k1
  have j2 : (kind == 2) = false := by simpa using k2
  have j3 : (kind == 3) = false := by simpa using k3
  have j4 : (kind == 4) = false := by simpa using k4
  have j5 : (kind == 5) = false := by simpa using k5
  have j6 : (kind == 6) = false := by simpa using k6
  cases own
  · refine (pl_0_false who lim rts hld frm a b c d er ek all kind j1 j2 j3 j4 j5 j6 w h ha hx hsz hcnt hE).mono ?_
    rintro e w' ⟨rfl, s', g', h1, h2⟩
    exact ⟨rfl, s', _, g', _, h1, h2, ha, hx, by omega⟩
  · refine (pl_0_true who lim rts hld frm a b c d er ek all kind j1 j2 j3 j4 j5 j6 w h ha hx hsz hcnt hE).mono ?_
    rintro e w' ⟨rfl, s', g', h1, h2⟩
    exact ⟨rfl, s', _, g', _, h1, h2, ha, hx, by omega⟩
end Go.Proofs.Ytjojhhkbebddmaa
namespace Go.Proofs.Ytjojhhkbebddmaa
open Go.RowKit Go.PlainAid
set_option linter.unusedVariables false
set_option linter.unusedSimpArgs false
/-- 'x & 1'. -/
theorem and1 (x : Int) : bits BinOp.and IntKind.i64 x 1 = 0 ∨ bits BinOp.and IntKind.i64 x 1 = 1 := by
  have h : ((BitVec.ofInt 64 x) &&& (BitVec.ofInt 64 1)).toNat ≤ 1 := by
    rw [BitVec.toNat_and]
    exact Nat.le_trans Nat.and_le_right (by decide)
  have h1 : bits BinOp.and IntKind.i64 x 1 = (((BitVec.ofInt 64 x) &&& (BitVec.ofInt 64 1)).toNat : Int) := by
    show IntKind.i64.wrap _ = _
    have h2 : (((BitVec.ofInt IntKind.i64.bits x) &&& (BitVec.ofInt IntKind.i64.bits 1)).toNat : Int) ≤ 1 := Int.ofNat_le.2 h
    rw [IntKind.wrap_i64]
    have h3 : (0 : Int) ≤ (((BitVec.ofInt IntKind.i64.bits x) &&& (BitVec.ofInt IntKind.i64.bits 1)).toNat : Int) := Int.natCast_nonneg _
    show ((((BitVec.ofInt IntKind.i64.bits x) &&& (BitVec.ofInt IntKind.i64.bits 1)).toNat : Int) + 9223372036854775808) % 18446744073709551616 - 9223372036854775808 = (((BitVec.ofInt IntKind.i64.bits x) &&& (BitVec.ofInt IntKind.i64.bits 1)).toNat : Int)
    omega
  rw [h1]
  omega
/-- One of the two sides. -/
inductive Sd where
  | no (pb : Nat)
  | yes (pb mb cb : Nat) (x : EV) (g : RG) (r : RV)
def Sd.pb : Sd → Nat
  | .no p => p
  | .yes p _ _ _ _ _ => p
def Sd.L (L : Nat) : Sd → List (Ent L)
  | .no p => [boxE L p #[.pointer none, .pointer none] 69]
  | .yes p mb cb x g r => [boxE L p #[.pointer (some ⟨mb, 0, none⟩), .pointer (some ⟨g.rb, 0, none⟩)] 69, mE L mb cb x, rE L g r]
def Sd.ok (c : Nat) : Sd → Prop
  | .no _ => True
  | .yes _ _ _ x _ r => Agr x r ∧ x.Nm ∧ r.sz ≤ c
theorem Sd.ok.up {c c' : Nat} {A : Sd} (h : A.ok c) (hc : c ≤ c') : A.ok c' := by
  cases A with
  | no p => trivial
  | yes p mb cb x g r => exact ⟨h.1, h.2.1, Nat.le_trans h.2.2 hc⟩
theorem AS.add {L : Nat} {own0 : Nat → Prop} {w0 w : World} {es : List (Ent L)} {e : Ent L} (h : AS own0 w0 es w) (hP : e.P w) (hn : ∀ k, e.bl k → ¬ has es k) (hw : ∀ k, e.bl k → w0.heap.size ≤ k) : AS own0 w0 (e :: es) w :=
  ⟨h.h.add hP hn, h.chg, fun k hk => by
    rcases has_cons.1 hk with q | q
    · exact .inr (hw k q)
    · exact h.new k q⟩
theorem side_begin {L pb : Nat} {own0 : Nat → Prop} {w0 : World} {Q : List (Ent L)} (me n : Int) (w : World) (h : AS own0 w0 (boxE L pb #[.pointer none, .pointer none] 69 :: Q) w) (hL : L ≤ w.heap.size) : Calls Try.prog 26 #[.pointer (some ⟨pb, 0, none⟩), .int .i64 me, .int .i64 n] w fun e w' => e = .returned (.bool true) ∧ ∃ A : Sd, A.pb = pb ∧ A.ok 0 ∧ AS own0 w0 (A.L L ++ Q) w' := by
  have hB : Blk w pb #[.pointer none, .pointer none] 69 := h.head.1
  have hlb : L ≤ pb := h.head.2
  by_cases hc : newC me n = 0
  · have hb : 0 ≤ me ∧ 0 ≤ n := by
      unfold newC at hc
      by_cases q : n < 2 ∨ 16 < n
      · rw [if_pos q] at hc; cases hc
      · rw [if_neg q] at hc
        by_cases q2 : me < 0 ∨ n ≤ me
        · rw [if_pos q2] at hc; cases hc
        · omega
    obtain ⟨m, rfl⟩ : ∃ m : Nat, me = (m : Int) := ⟨me.toNat, by omega⟩
    obtain ⟨k, rfl⟩ : ∃ k : Nat, n = (k : Int) := ⟨n.toNat, by omega⟩
    refine (begin_yes m k w hB hc).mono ?_
    rintro e w' ⟨rfl, mb, cb, g, h1, h2, h3, h4, h5⟩
    have hw0 := h.chg.size
    have hlt : ∀ q, has (boxE L pb #[.pointer none, .pointer none] 69 :: Q) q → q < w.heap.size := fun q hq => (h.h.typ hq).2
    have hA1 : AS own0 w0 (boxE L pb #[.pointer (some ⟨mb, 0, none⟩), .pointer (some ⟨g.rb, 0, none⟩)] 69 :: Q) w' := h.swap (e' := boxE L pb #[.pointer (some ⟨mb, 0, none⟩), .pointer (some ⟨g.rb, 0, none⟩)] 69) h5 ⟨h1, hlb⟩ (fun q hq => .inl hq)
    have hA2 : AS own0 w0 (rE L g ⟨m, k, [], [], [], false⟩ :: boxE L pb #[.pointer (some ⟨mb, 0, none⟩), .pointer (some ⟨g.rb, 0, none⟩)] 69 :: Q) w' := hA1.add (h3.low hL) (fun q hq hh => by
      have e1 := (h3.lt hq).1
      have e2 := hlt q (by rcases has_cons.1 hh with e | e; exact has_cons.2 (.inl e); exact has_cons.2 (.inr e))
      omega) (fun q hq => Nat.le_trans hw0 (h3.lt hq).1)
    have hA3 : AS own0 w0 (mE L mb cb (newX m k) :: rE L g ⟨m, k, [], [], [], false⟩ :: boxE L pb #[.pointer (some ⟨mb, 0, none⟩), .pointer (some ⟨g.rb, 0, none⟩)] 69 :: Q) w' := hA2.add (h2.low hL) (fun q hq hh => by
      rcases has_cons.1 hh with e | e
      · exact h4 q hq e
      · have e1 := (h2.lt hq).1
        have e2 := hlt q (by rcases has_cons.1 e with e | e; exact has_cons.2 (.inl e); exact has_cons.2 (.inr e))
        omega) (fun q hq => Nat.le_trans hw0 (h2.lt hq).1)
    refine ⟨rfl, .yes pb mb cb (newX m k) g ⟨m, k, [], [], [], false⟩, rfl, ⟨Agr.new m k, newX_nm m k hc, Nat.le_refl _⟩, ?_⟩
    exact hA3.perm (((List.Perm.swap _ _ _).cons _).trans (List.Perm.swap _ _ _))
  · refine (begin_no me n w hB hc).mono ?_
    rintro e w' ⟨rfl, h1, h2⟩
    exact ⟨rfl, .no pb, rfl, trivial, h.swap (e' := boxE L pb #[.pointer none, .pointer none] 69) h2 ⟨h1, hlb⟩ (fun q hq => .inl hq)⟩
end Go.Proofs.Ytjojhhkbebddmaa
namespace Go.Proofs.Ytjojhhkbebddmaa
open Go.RowKit Go.PlainAid
set_option linter.unusedVariables false
set_option linter.unusedSimpArgs false
/-- Shelves of one kind, wherever they lie. -/
structure KFam (σ : Type) (L : Nat) (lt : Bool) where
  K : ∀ kb : Nat, Keeper σ L kb
  fr : ∀ kb, KFr (K kb)
  s0 : σ
  inv0 : ∀ (kb : Nat) (W : World), Blk W kb #[.bool lt, .slice none 0 0, .slice none 0 0, .slice none 0 0, .slice none 0 0, .slice none 0 0, .slice none 0 0] 76 → L ≤ kb → (K kb).Inv s0 W
  bl0 : ∀ (kb k : Nat), (K kb).bl s0 k → k = kb
  cnt0 : ∀ kb, (K kb).cnt s0 = 0
def earlyF (L : Nat) : KFam ES L false where
  K := early L
  fr := early_fr L
  s0 := ⟨.slice none 0 0, .slice none 0 0, .slice none 0 0, .slice none 0 0, [], []⟩
  inv0 kb W hB hl := show KE L kb _ W from ⟨hB, ⟨World.ownsRow_nil _ _ _ _, World.ownsRow_nil _ _ _ _, fun e he => (by cases he)⟩, ⟨World.ownsRow_nil _ _ _ _, World.ownsRow_nil _ _ _ _, fun e he => (by cases he)⟩, fun g e => (by cases e), fun e he => (by cases he), fun e he => (by cases he), hl⟩
  bl0 kb k hk := by
    have hk' : KB kb ⟨.slice none 0 0, .slice none 0 0, .slice none 0 0, .slice none 0 0, [], []⟩ k := hk
    rcases hk' with q | q | q
    · exact q
    · rcases q with q | q | ⟨x, hx, q⟩
      · cases q
      · cases q
      · cases hx
    · rcases q with q | q | ⟨x, hx, q⟩
      · cases q
      · cases q
      · cases hx
  cnt0 kb := rfl
/-- The parts of the whole walk. -/
def LS {σ : Type} {L : Nat} {lt : Bool} (F : KFam σ L lt) (kb ab : Nat) (s : σ) (A B : Sd) : List (Ent L) :=
  kE (F.K kb) (F.fr kb) s :: (A.L L ++ (B.L L ++ [boxE L ab #[.pointer (some ⟨A.pb, 0, none⟩), .pointer (some ⟨B.pb, 0, none⟩)] 70]))
section
variable {σ : Type} {L : Nat} {lt : Bool} {F : KFam σ L lt} {kb ab : Nat} {s : σ} {A B : Sd} {own0 : Nat → Prop} {w0 w : World}
theorem LS.arr (h : AS own0 w0 (LS F kb ab s A B) w) : Blk w ab #[.pointer (some ⟨A.pb, 0, none⟩), .pointer (some ⟨B.pb, 0, none⟩)] 70 := (h.get (e := boxE L ab #[.pointer (some ⟨A.pb, 0, none⟩), .pointer (some ⟨B.pb, 0, none⟩)] 70) (by simp [LS])).1
theorem LS.sw (h : AS own0 w0 (LS F kb ab s A B) w) : AS own0 w0 (kE (F.K kb) (F.fr kb) s :: (B.L L ++ (A.L L ++ [boxE L ab #[.pointer (some ⟨A.pb, 0, none⟩), .pointer (some ⟨B.pb, 0, none⟩)] 70]))) w := by
  refine h.perm (List.Perm.cons _ ?_)
  rw [← List.append_assoc, ← List.append_assoc]
  exact List.Perm.append_right _ List.perm_append_comm
theorem LS.un (h : AS own0 w0 (kE (F.K kb) (F.fr kb) s :: (B.L L ++ (A.L L ++ [boxE L ab #[.pointer (some ⟨A.pb, 0, none⟩), .pointer (some ⟨B.pb, 0, none⟩)] 70]))) w) : AS own0 w0 (LS F kb ab s A B) w := by
  refine h.perm (List.Perm.cons _ ?_)
  rw [← List.append_assoc, ← List.append_assoc]
  exact List.Perm.append_right _ List.perm_append_comm
end
/-- A side's round: what is known of it ahead, and what it does. -/
theorem side_cells {L : Nat} {own0 : Nat → Prop} {w0 w : World} {e : Ent L} {A : Sd} {Q : List (Ent L)} (h : AS own0 w0 (e :: (A.L L ++ Q)) w) : (∃ p, A = .no p ∧ w.cell? ⟨p, 0, none⟩ = some (.pointer none)) ∨ ∃ p mb cb x g r, A = .yes p mb cb x g r ∧ w.cell? ⟨p, 0, none⟩ = some (.pointer (some ⟨mb, 0, none⟩)) ∧ w.cell? ⟨p, 1, none⟩ = some (.pointer (some ⟨g.rb, 0, none⟩)) := by
  cases A with
  | no p =>
    refine .inl ⟨p, rfl, ?_⟩
    exact (h.get (e := boxE L p #[.pointer none, .pointer none] 69) (by simp [Sd.L])).1.cell 0
  | yes p mb cb x g r =>
    have hb := (h.get (e := boxE L p #[.pointer (some ⟨mb, 0, none⟩), .pointer (some ⟨g.rb, 0, none⟩)] 69) (by simp [Sd.L])).1
    exact .inr ⟨p, mb, cb, x, g, r, rfl, hb.cell 0, hb.cell 1⟩
theorem side_play {σ : Type} {L : Nat} {lt : Bool} {F : KFam σ L lt} {kb p mb cb : Nat} {s : σ} {x : EV} {g : RG} {r : RV} {Q : List (Ent L)} {own0 : Nat → Prop} {w0 : World} {n : Nat} (c : Cl) (w : World) (h : AS own0 w0 (kE (F.K kb) (F.fr kb) s :: ((Sd.yes p mb cb x g r).L L ++ Q)) w) (hok : (Sd.yes p mb cb x g r).ok n) (hn : n ≤ 900000000) (hc : (F.K kb).cnt s ≤ 900000000000) : Calls Try.prog 27 #[.pointer (some ⟨p, 0, none⟩), .agg c.cells, .pointer (some ⟨kb, 0, none⟩)] w fun e w' => e = .returned (.bool true) ∧ ∃ (s' : σ) (A' : Sd), A'.pb = p ∧ A'.ok (n + 4) ∧ AS own0 w0 (kE (F.K kb) (F.fr kb) s' :: (A'.L L ++ Q)) w' ∧ (F.K kb).cnt s' ≤ (F.K kb).cnt s + 36 := by
  obtain ⟨h1, h2, h3⟩ := hok
  refine (played_any (K := F.K kb) (hK := F.fr kb) c w h h1 h2 (by omega) (by omega)).mono ?_
  rintro e w' ⟨rfl, s', x', g', r', h4, h5, h6, h7, h8⟩
  exact ⟨rfl, s', .yes p mb cb x' g' r', rfl, ⟨h6, h7, by omega⟩, h4, h5⟩
end Go.Proofs.Ytjojhhkbebddmaa
namespace Go.Proofs.Ytjojhhkbebddmaa
open Go.RowKit Go.PlainAid
set_option linter.unusedVariables false
set_option linter.unusedSimpArgs false
/-- A script that came in. -/
def ScrIn (w : World) (lo : Option Addr) (xs : List Cl) : Prop := ∀ (i : Nat) (c : Cl), xs[i]? = some c → ∃ b o, lo = some ⟨b, o, none⟩ ∧ b < w.heap.size ∧ ∀ (j : Nat) (v : Value), c.cells[j]? = some v → w.cell? ⟨b, o + i * 12 + j, none⟩ = some v
/-- What holds ahead of each round. -/
structure PI {σ : Type} {L : Nat} {lt : Bool} (F : KFam σ L lt) (kb ab p0 p1 : Nat) (w0 : World) (k : Nat) (s : σ) (A B : Sd) (w : World) : Prop where
  pa : A.pb = p0
  pb : B.pb = p1
  oa : A.ok (4 * k)
  ob : B.ok (4 * k)
  cn : (F.K kb).cnt s ≤ 36 * k
  st : AS (fun _ => False) w0 (LS F kb ab s A B) w
theorem PI.more {σ : Type} {L : Nat} {lt : Bool} {F : KFam σ L lt} {kb ab p0 p1 k : Nat} {w0 w w' : World} {s : σ} {A B : Sd} (h : PI F kb ab p0 p1 w0 k s A B w) (hb : Below w.heap.size w w') : PI F kb ab p0 p1 w0 k s A B w' := ⟨h.pa, h.pb, h.oa, h.ob, h.cn, h.st.more hb⟩
theorem PI.nx {σ : Type} {L : Nat} {lt : Bool} {F : KFam σ L lt} {kb ab p0 p1 k : Nat} {w0 w : World} {s : σ} {A B : Sd} (h : PI F kb ab p0 p1 w0 k s A B w) : PI F kb ab p0 p1 w0 (k + 1) s A B w := ⟨h.pa, h.pb, h.oa.up (by omega), h.ob.up (by omega), by have := h.cn; omega, h.st⟩
theorem PI.arr {σ : Type} {L : Nat} {lt : Bool} {F : KFam σ L lt} {kb ab p0 p1 k : Nat} {w0 w : World} {s : σ} {A B : Sd} (h : PI F kb ab p0 p1 w0 k s A B w) : w.cell? ⟨ab, 0, none⟩ = some (.pointer (some ⟨p0, 0, none⟩)) ∧ w.cell? ⟨ab, 1, none⟩ = some (.pointer (some ⟨p1, 0, none⟩)) := by
  have hb := LS.arr h.st
  rw [h.pa, h.pb] at hb
  exact ⟨hb.cell 0, hb.cell 1⟩
theorem PI.low {σ : Type} {L : Nat} {lt : Bool} {F : KFam σ L lt} {kb ab p0 p1 k : Nat} {w0 w : World} {s : σ} {A B : Sd} (h : PI F kb ab p0 p1 w0 k s A B w) : Below w0.heap.size w0 w := ⟨h.st.chg.os, h.st.chg.tape, h.st.chg.output, h.st.chg.size, fun j hj => h.st.chg.block j hj (fun e => e)⟩
theorem PI.playA {σ : Type} {L : Nat} {lt : Bool} {F : KFam σ L lt} {kb ab p0 p1 k p mb cb : Nat} {w0 w : World} {s : σ} {x : EV} {g : RG} {r : RV} {B : Sd} (c : Cl) (h : PI F kb ab p0 p1 w0 k s (.yes p mb cb x g r) B w) (hk : k ≤ 1048576) : Calls Try.prog 27 #[.pointer (some ⟨p, 0, none⟩), .agg c.cells, .pointer (some ⟨kb, 0, none⟩)] w fun e w' => e = .returned (.bool true) ∧ ∃ s' A', PI F kb ab p0 p1 w0 (k + 1) s' A' B w' := by
  have hcn := h.cn
  refine (side_play (n := 4 * k) c w h.st h.oa (by omega) (by omega)).mono ?_
  rintro e w' ⟨rfl, s', A', h1, h2, h3, h4⟩
  have hpa : A'.pb = p0 := h1.trans h.pa
  refine ⟨rfl, s', A', hpa, h.pb, h2, h.ob.up (by omega), by omega, ?_⟩
  have hp : (Sd.yes p mb cb x g r).pb = A'.pb := h.pa.trans hpa.symm
  rw [hp] at h3
  exact h3
theorem PI.playB {σ : Type} {L : Nat} {lt : Bool} {F : KFam σ L lt} {kb ab p0 p1 k p mb cb : Nat} {w0 w : World} {s : σ} {x : EV} {g : RG} {r : RV} {A : Sd} (c : Cl) (h : PI F kb ab p0 p1 w0 k s A (.yes p mb cb x g r) w) (hk : k ≤ 1048576) : Calls Try.prog 27 #[.pointer (some ⟨p, 0, none⟩), .agg c.cells, .pointer (some ⟨kb, 0, none⟩)] w fun e w' => e = .returned (.bool true) ∧ ∃ s' B', PI F kb ab p0 p1 w0 (k + 1) s' A B' w' := by
  have hcn := h.cn
  refine (side_play (n := 4 * k) c w (LS.sw h.st) h.ob (by omega) (by omega)).mono ?_
  rintro e w' ⟨rfl, s', B', h1, h2, h3, h4⟩
  have hpb : B'.pb = p1 := h1.trans h.pb
  refine ⟨rfl, s', B', h.pa, hpb, h.oa.up (by omega), h2, by omega, ?_⟩
  have hp : (Sd.yes p mb cb x g r).pb = B'.pb := h.pb.trans hpb.symm
  rw [hp] at h3
  exact LS.un h3
theorem PI.cellsA {σ : Type} {L : Nat} {lt : Bool} {F : KFam σ L lt} {kb ab p0 p1 k : Nat} {w0 w : World} {s : σ} {A B : Sd} (h : PI F kb ab p0 p1 w0 k s A B w) : w.cell? ⟨p0, 0, none⟩ = some (.pointer none) ∨ ∃ mb cb x g r, A = .yes p0 mb cb x g r ∧ w.cell? ⟨p0, 0, none⟩ = some (.pointer (some ⟨mb, 0, none⟩)) ∧ w.cell? ⟨p0, 1, none⟩ = some (.pointer (some ⟨g.rb, 0, none⟩)) := by
  have hpa := h.pa
  rcases side_cells h.st with ⟨p, rfl, h1⟩ | ⟨p, mb, cb, x, g, r, rfl, h1, h2⟩
  · obtain rfl : p = p0 := hpa
    exact .inl h1
  · obtain rfl : p = p0 := hpa
    exact .inr ⟨mb, cb, x, g, r, rfl, h1, h2⟩
theorem PI.cellsB {σ : Type} {L : Nat} {lt : Bool} {F : KFam σ L lt} {kb ab p0 p1 k : Nat} {w0 w : World} {s : σ} {A B : Sd} (h : PI F kb ab p0 p1 w0 k s A B w) : w.cell? ⟨p1, 0, none⟩ = some (.pointer none) ∨ ∃ mb cb x g r, B = .yes p1 mb cb x g r ∧ w.cell? ⟨p1, 0, none⟩ = some (.pointer (some ⟨mb, 0, none⟩)) ∧ w.cell? ⟨p1, 1, none⟩ = some (.pointer (some ⟨g.rb, 0, none⟩)) := by
  have hpb := h.pb
  rcases side_cells (LS.sw h.st) with ⟨p, rfl, h1⟩ | ⟨p, mb, cb, x, g, r, rfl, h1, h2⟩
  · obtain rfl : p = p1 := hpb
    exact .inl h1
  · obtain rfl : p = p1 := hpb
    exact .inr ⟨mb, cb, x, g, r, rfl, h1, h2⟩
theorem PI.start {σ : Type} {lt : Bool} {w0 w : World} {F : KFam σ w0.heap.size lt} {ab : Nat} {A B : Sd} (hA : AS (fun _ => False) w0 (B.L w0.heap.size ++ (A.L w0.heap.size ++ [boxE w0.heap.size ab #[.pointer (some ⟨A.pb, 0, none⟩), .pointer (some ⟨B.pb, 0, none⟩)] 70])) w) (ha : A.ok 0) (hb : B.ok 0) : PI F w.heap.size ab A.pb B.pb w0 0 F.s0 A B (w.alloc (.cells #[.bool lt, .slice none 0 0, .slice none 0 0, .slice none 0 0, .slice none 0 0, .slice none 0 0, .slice none 0 0] 76)) := by
  have hb1 : Below w.heap.size w (w.alloc (.cells #[.bool lt, .slice none 0 0, .slice none 0 0, .slice none 0 0, .slice none 0 0, .slice none 0 0, .slice none 0 0] 76)) := (Below.refl _ _).alloc (Nat.le_refl _) _
  have hB : Blk (w.alloc (.cells #[.bool lt, .slice none 0 0, .slice none 0 0, .slice none 0 0, .slice none 0 0, .slice none 0 0, .slice none 0 0] 76)) w.heap.size #[.bool lt, .slice none 0 0, .slice none 0 0, .slice none 0 0, .slice none 0 0, .slice none 0 0, .slice none 0 0] 76 := heap_alloc_new w _
  have hI := F.inv0 w.heap.size _ hB hA.chg.size
  have hn : ∀ k, (kE (F.K w.heap.size) (F.fr w.heap.size) F.s0).bl k → w.heap.size ≤ k := fun k hk => Nat.le_of_eq (F.bl0 w.heap.size k hk).symm
  generalize w.alloc (.cells #[.bool lt, .slice none 0 0, .slice none 0 0, .slice none 0 0, .slice none 0 0, .slice none 0 0, .slice none 0 0] 76) = W at *
  have h2 := AS.fresh (e := kE (F.K w.heap.size) (F.fr w.heap.size) F.s0) hA hb1 hI hn
  have hc := F.cnt0 w.heap.size
  exact { pa := rfl, pb := rfl, oa := ha.up (by omega), ob := hb.up (by omega), cn := by omega, st := LS.un h2 }
theorem pES_k {σ : Type} {L : Nat} {lt : Bool} {F : KFam σ L lt} {kb ab : Nat} {w0 w : World} {s : σ} {A B : Sd} (h : AS (fun _ => False) w0 (LS F kb ab s A B) w) : (F.K kb).Inv s w := h.get (e := kE (F.K kb) (F.fr kb) s) (by simp [LS])
set_option maxRecDepth 100000 in
set_option maxHeartbeats 12800000 in
theorem plays_any {σ : Type} {lt : Bool} (me n ot on lo hi : Int) (ao : Option Addr) (nn cv : Nat) (xs : List Cl) (w : World) (F : KFam σ w.heap.size lt) (hxs : ScrIn w ao xs) (hn : xs.length = nn) (hnn : nn ≤ 1048576) : Calls Try.prog 14 #[.int .i64 me, .int .i64 n, .int .i64 ot, .int .i64 on, .slice ao nn cv, .int .i64 lo, .int .i64 hi, .bool lt] w fun e w' => e = .returned (.bool true) ∧ Below w.heap.size w w' := by
  have HX : Hid _ := hxs
  have HN : Hid _ := hn
  clear hxs hn
  go_enter Try.func14, Try.ntmps14
  go_upto_region 2 with fail
  obtain ⟨p0, hp0⟩ : ∃ p, p = w.heap.size := ⟨_, rfl⟩
  obtain ⟨p1, hp1⟩ : ∃ p, p = w.heap.size + 1 := ⟨_, rfl⟩
  obtain ⟨ab, hab⟩ : ∃ p, p = w.heap.size + 1 + 1 := ⟨_, rfl⟩
  have hA : AS (fun _ => False) w (boxE w.heap.size p0 #[.pointer none, .pointer none] 69 :: boxE w.heap.size p1 #[.pointer none, .pointer none] 69 :: [boxE w.heap.size ab #[.pointer (some ⟨p0, 0, none⟩), .pointer (some ⟨p1, 0, none⟩)] 70]) (((w.alloc (.cells #[.pointer none, .pointer none] 69)).alloc (.cells #[.pointer none, .pointer none] 69)).alloc (.cells #[.pointer (some ⟨w.heap.size, 0, none⟩), .pointer (some ⟨w.heap.size + 1, 0, none⟩)] 70)) := by
    have h0 : AS (fun _ => False) w ([] : List (Ent w.heap.size)) w := ⟨⟨fun e he => (by cases he), List.Pairwise.nil⟩, Chg.refl _ _, fun k hk => (by obtain ⟨e, he, _⟩ := hk; cases he)⟩
    have h1 : AS (fun _ => False) w [boxE w.heap.size p0 #[.pointer none, .pointer none] 69] (w.alloc (.cells #[.pointer none, .pointer none] 69)) := h0.fresh (e := boxE w.heap.size p0 #[.pointer none, .pointer none] 69) ((Below.refl _ _).alloc (Nat.le_refl _) _) ⟨by rw [hp0]; exact heap_alloc_new w _, by omega⟩ (fun k hk => by have : k = p0 := hk; omega)
    have h2 : AS (fun _ => False) w (boxE w.heap.size p1 #[.pointer none, .pointer none] 69 :: [boxE w.heap.size p0 #[.pointer none, .pointer none] 69]) ((w.alloc (.cells #[.pointer none, .pointer none] 69)).alloc (.cells #[.pointer none, .pointer none] 69)) := h1.fresh (e := boxE w.heap.size p1 #[.pointer none, .pointer none] 69) ((Below.refl _ _).alloc (Nat.le_refl _) _) ⟨by
      have := heap_alloc_new (w.alloc (.cells #[.pointer none, .pointer none] 69)) (.cells #[.pointer none, .pointer none] 69)
      rw [World.size_alloc] at this
      rw [hp1]
      exact this, by omega⟩ (fun k hk => by have : k = p1 := hk; rw [World.size_alloc]; omega)
    have h3 := h2.fresh (e := boxE w.heap.size ab #[.pointer (some ⟨p0, 0, none⟩), .pointer (some ⟨p1, 0, none⟩)] 70) (w' := (((w.alloc (.cells #[.pointer none, .pointer none] 69)).alloc (.cells #[.pointer none, .pointer none] 69)).alloc (.cells #[.pointer (some ⟨w.heap.size, 0, none⟩), .pointer (some ⟨w.heap.size + 1, 0, none⟩)] 70))) ((Below.refl _ _).alloc (Nat.le_refl _) _) ⟨by
      have := heap_alloc_new ((w.alloc (.cells #[.pointer none, .pointer none] 69)).alloc (.cells #[.pointer none, .pointer none] 69)) (.cells #[.pointer (some ⟨w.heap.size, 0, none⟩), .pointer (some ⟨w.heap.size + 1, 0, none⟩)] 70)
      rw [World.size_alloc, World.size_alloc] at this
      rw [hab, hp0, hp1]
      exact this, by omega⟩ (fun k hk => by have : k = ab := hk; rw [World.size_alloc, World.size_alloc]; omega)
    exact h3.perm ((List.Perm.swap _ _ _).trans (((List.Perm.swap _ _ _).cons _).trans (List.Perm.swap _ _ _)))
  generalize (((w.alloc (.cells #[.pointer none, .pointer none] 69)).alloc (.cells #[.pointer none, .pointer none] 69)).alloc (.cells #[.pointer (some ⟨w.heap.size, 0, none⟩), .pointer (some ⟨w.heap.size + 1, 0, none⟩)] 70)) = W3 at *
  rw [← hab, ← hp1, ← hp0]
  have HA3 : Hid (AS (fun _ => False) w (boxE w.heap.size p0 #[.pointer none, .pointer none] 69 :: boxE w.heap.size p1 #[.pointer none, .pointer none] 69 :: [boxE w.heap.size ab #[.pointer (some ⟨p0, 0, none⟩), .pointer (some ⟨p1, 0, none⟩)] 70]) W3) := hA
  clear hA hp0 hp1 hab
  go_upto_region 4 with (first
    | (go_at_call 10; refine Calls.mono (able_any _) ?_; rintro e w4 ⟨rfl, hb4⟩; have HA4 : Hid _ := HA3.out.more hb4; have hbx := (HA4.out.get (e := boxE w.heap.size ab #[.pointer (some ⟨p0, 0, none⟩), .pointer (some ⟨p1, 0, none⟩)] 70) (by simp)).1; have x0 := hbx.cell 0; have x1 := hbx.cell 1; clear hbx HA3)
    | (go_at_call 26; have hq4 := HA4; clear hq4; refine Calls.mono (side_begin me n _ HA4.out HA4.out.chg.size) ?_; clear HA4; rintro e w5 ⟨rfl, A, hpa, hoa, hA5⟩; have HA5 : Hid _ := hA5.perm (List.perm_middle (l₁ := A.L w.heap.size) (l₂ := [boxE w.heap.size ab #[.pointer (some ⟨p0, 0, none⟩), .pointer (some ⟨p1, 0, none⟩)] 70]) (a := boxE w.heap.size p1 #[.pointer none, .pointer none] 69)); have HOA : Hid _ := hoa; have HPA : Hid _ := hpa; have hbx := (hA5.get (e := boxE w.heap.size ab #[.pointer (some ⟨p0, 0, none⟩), .pointer (some ⟨p1, 0, none⟩)] 70) (by simp)).1; have x0 := hbx.cell 0; have x1 := hbx.cell 1; clear hbx hA5 hoa hpa)
    | (go_at_call 26; refine Calls.mono (side_begin ot on _ HA5.out HA5.out.chg.size) ?_; clear HA5; rintro e w6 ⟨rfl, B, hpb, hob, hA6⟩; have HA6 : Hid _ := hA6; have HOB : Hid _ := hob; have HPB : Hid _ := hpb; clear hA6 hob hpb)
    | fail)
  clear x0 x1
  have hS : PI F w6.heap.size ab p0 p1 w 0 F.s0 A B (w6.alloc (.cells #[.bool lt, .slice none 0 0, .slice none 0 0, .slice none 0 0, .slice none 0 0, .slice none 0 0, .slice none 0 0] 76)) := by
    have h6 := HA6.out
    have e1 := HPA.out
    have e2 := HPB.out
    subst e1 e2
    exact PI.start h6 HOA.out HOB.out
  have HS : Hid _ := hS
  obtain ⟨kb, hkb⟩ : ∃ k, k = w6.heap.size := ⟨_, rfl⟩
  rw [← hkb] at HS
  clear hS HA6 HOA HOB HPA HPB
  go_wp2_with fail
  try rw [← hkb]
  clear hkb
  go_loopw [19] (fun i wr => ∃ (k : Nat) (s : σ) (A B : Sd), k ≤ nn ∧ i = .int .i64 (k : Int) ∧ Hid (PI F kb ab p0 p1 w k s A B wr)) (fun i _ => nn - (intOf i).toNat)
  case atStart => exact ⟨0, _, _, _, Nat.zero_le _, rfl, HS⟩
  case round =>
    clear HS
    obtain ⟨k, s, A, B, hk, rfl, HI⟩ := hrel
    by_cases hlt : k < nn
    · obtain ⟨c, hc⟩ : ∃ c, xs[k]? = some c := ⟨_, List.getElem?_eq_getElem (by rw [HN.out]; exact hlt)⟩
      obtain ⟨b, o, rfl, hbw, hcell⟩ := HX.out k c hc
      have hcc : ∀ (j : Nat) (v : Value), c.cells[j]? = some v → wr.cell? ⟨b, o + k * 12 + j, none⟩ = some v := fun j v hv => (World.cell?_of_block (w := w) (HI.out.low.block b hbw)).trans (hcell j v hv)
      obtain ⟨x0, x1⟩ := HI.out.arr
      have HCC : Hid _ := hcc
      obtain ⟨who, kind, lim, rts, hld, all, own, frm, ⟨ea, eb⟩, ⟨oc, od⟩⟩ := c
      have d0 : wr.cell? ⟨b, o + k * 12, none⟩ = some (.int .i64 who) := hcc 0 _ rfl
      clear hcc hcell hc
      rcases and1 who with hbit | hbit
      · rcases HI.out.cellsA with y0 | ⟨mb, cb, x, g, r, rfl, y0, y1⟩
        · go_wp2_with fail
          go_roundw
          case rel => exact ⟨k + 1, s, A, B, by omega, by go_num, HI.out.nx⟩
          case measure => simp [intOf]; omega
        · have HPL : Hid _ := HI.out.playA (⟨who, kind, lim, rts, hld, all, own, frm, ⟨ea, eb⟩, ⟨oc, od⟩⟩ : Cl) (by omega)
          go_upto_region 10 with fail
          have d1 : wr.cell? ⟨b, o + k * 12 + 1, none⟩ = some (.int .i64 kind) := HCC.out 1 _ rfl
          have d2 : wr.cell? ⟨b, o + k * 12 + 2, none⟩ = some (.int .i64 lim) := HCC.out 2 _ rfl
          have d3 : wr.cell? ⟨b, o + k * 12 + 3, none⟩ = some (.int .i64 rts) := HCC.out 3 _ rfl
          have d4 : wr.cell? ⟨b, o + k * 12 + 4, none⟩ = some (.int .i64 hld) := HCC.out 4 _ rfl
          have d5 : wr.cell? ⟨b, o + k * 12 + 5, none⟩ = some (.bool all) := HCC.out 5 _ rfl
          have d6 : wr.cell? ⟨b, o + k * 12 + 6, none⟩ = some (.bool own) := HCC.out 6 _ rfl
          have d7 : wr.cell? ⟨b, o + k * 12 + 7, none⟩ = some (.int .i64 frm) := HCC.out 7 _ rfl
          have d8 : wr.cell? ⟨b, o + k * 12 + 8, none⟩ = some (.int .i64 ea) := HCC.out 8 _ rfl
          have d9 : wr.cell? ⟨b, o + k * 12 + 9, none⟩ = some (.int .i64 eb) := HCC.out 9 _ rfl
          have d10 : wr.cell? ⟨b, o + k * 12 + 10, none⟩ = some (.int .i64 oc) := HCC.out 10 _ rfl
          have d11 : wr.cell? ⟨b, o + k * 12 + 11, none⟩ = some (.int .i64 od) := HCC.out 11 _ rfl
          clear HCC
          go_wp2_with (first
            | (go_at_call 27; refine Calls.mono HPL.out ?_; rintro e w9 ⟨rfl, s', A', hI'⟩; have HI' : Hid _ := hI'; clear hI')
            | fail)
          go_roundw
          case rel => exact ⟨k + 1, s', A', B, by omega, by go_num, HI'⟩
          case measure => simp [intOf]; omega
      · rcases HI.out.cellsB with y0 | ⟨mb, cb, x, g, r, rfl, y0, y1⟩
        · go_wp2_with fail
          go_roundw
          case rel => exact ⟨k + 1, s, A, B, by omega, by go_num, HI.out.nx⟩
          case measure => simp [intOf]; omega
        · have HPL : Hid _ := HI.out.playB (⟨who, kind, lim, rts, hld, all, own, frm, ⟨ea, eb⟩, ⟨oc, od⟩⟩ : Cl) (by omega)
          go_upto_region 10 with fail
          have d1 : wr.cell? ⟨b, o + k * 12 + 1, none⟩ = some (.int .i64 kind) := HCC.out 1 _ rfl
          have d2 : wr.cell? ⟨b, o + k * 12 + 2, none⟩ = some (.int .i64 lim) := HCC.out 2 _ rfl
          have d3 : wr.cell? ⟨b, o + k * 12 + 3, none⟩ = some (.int .i64 rts) := HCC.out 3 _ rfl
          have d4 : wr.cell? ⟨b, o + k * 12 + 4, none⟩ = some (.int .i64 hld) := HCC.out 4 _ rfl
          have d5 : wr.cell? ⟨b, o + k * 12 + 5, none⟩ = some (.bool all) := HCC.out 5 _ rfl
          have d6 : wr.cell? ⟨b, o + k * 12 + 6, none⟩ = some (.bool own) := HCC.out 6 _ rfl
          have d7 : wr.cell? ⟨b, o + k * 12 + 7, none⟩ = some (.int .i64 frm) := HCC.out 7 _ rfl
          have d8 : wr.cell? ⟨b, o + k * 12 + 8, none⟩ = some (.int .i64 ea) := HCC.out 8 _ rfl
          have d9 : wr.cell? ⟨b, o + k * 12 + 9, none⟩ = some (.int .i64 eb) := HCC.out 9 _ rfl
          have d10 : wr.cell? ⟨b, o + k * 12 + 10, none⟩ = some (.int .i64 oc) := HCC.out 10 _ rfl
          have d11 : wr.cell? ⟨b, o + k * 12 + 11, none⟩ = some (.int .i64 od) := HCC.out 11 _ rfl
          clear HCC
          go_wp2_with (first
            | (go_at_call 27; refine Calls.mono HPL.out ?_; rintro e w9 ⟨rfl, s', A', hI'⟩; have HI' : Hid _ := hI'; clear hI')
            | fail)
          go_roundw
          case rel => exact ⟨k + 1, s', A, A', by omega, by go_num, HI'⟩
          case measure => simp [intOf]; omega
    · obtain rfl : k = nn := by omega
      have HW : Hid _ := (F.K kb).whole (pES_k HI.out.st) (by have := HI.out.cn; omega)
      go_wp2_with (first
        | (go_at_call 28; refine Calls.mono HW.out ?_; rintro e w9 ⟨rfl, hc9⟩)
        | fail)
      go_ret
      refine ⟨rfl, HI.out.low.trans (hc9.below HI.out.low.size (fun q hq => ((F.K kb).lt (pES_k HI.out.st) hq).1))⟩
end Go.Proofs.Ytjojhhkbebddmaa
namespace Go.Proofs.Ytjojhhkbebddmaa
open Go.RowKit Go.PlainAid
set_option linter.unusedVariables false
set_option linter.unusedSimpArgs false
set_option maxRecDepth 100000 in
theorem begins_law (z0 z1 : Int) (ao : Option Addr) (nn cv : Nat) (xs : List Cl) (W : World) (hxs : ScrIn W ao xs) (hn : xs.length = nn) (hnn : nn ≤ 1048576) : Calls Try.prog 5 #[.int .i64 z0, .int .i64 z1, .slice ao nn cv] W fun e W' => e = .returned (.bool true) ∧ Below W.heap.size W W' := by
  have HP : Hid _ := plays_any z0 z1 0 2 1 1 ao nn cv xs W (earlyF W.heap.size) hxs hn hnn
  clear hxs hn hnn
  go_enter Try.func5, Try.ntmps5
  go_wp2_with (first
    | (go_at_call 14; refine Calls.mono HP.out ?_; rintro e w1 ⟨rfl, hb1⟩)
    | fail)
  go_ret
  exact ⟨rfl, hb1⟩
set_option maxRecDepth 100000 in
theorem hears_law (z0 z1 : Int) (ao : Option Addr) (nn cv : Nat) (xs : List Cl) (W : World) (hxs : ScrIn W ao xs) (hn : xs.length = nn) (hnn : nn ≤ 1048576) : Calls Try.prog 6 #[.int .i64 z0, .int .i64 z1, .slice ao nn cv] W fun e W' => e = .returned (.bool true) ∧ Below W.heap.size W W' := by
  have HP : Hid _ := plays_any z0 z1 0 2 2 3 ao nn cv xs W (earlyF W.heap.size) hxs hn hnn
  clear hxs hn hnn
  go_enter Try.func6, Try.ntmps6
  go_wp2_with (first
    | (go_at_call 14; refine Calls.mono HP.out ?_; rintro e w1 ⟨rfl, hb1⟩)
    | fail)
  go_ret
  exact ⟨rfl, hb1⟩
set_option maxRecDepth 100000 in
theorem looks_law (z0 z1 : Int) (ao : Option Addr) (nn cv : Nat) (xs : List Cl) (W : World) (hxs : ScrIn W ao xs) (hn : xs.length = nn) (hnn : nn ≤ 1048576) : Calls Try.prog 7 #[.int .i64 z0, .int .i64 z1, .slice ao nn cv] W fun e W' => e = .returned (.bool true) ∧ Below W.heap.size W W' := by
  have HP : Hid _ := plays_any z0 z1 0 2 4 6 ao nn cv xs W (earlyF W.heap.size) hxs hn hnn
  clear hxs hn hnn
  go_enter Try.func7, Try.ntmps7
  go_wp2_with (first
    | (go_at_call 14; refine Calls.mono HP.out ?_; rintro e w1 ⟨rfl, hb1⟩)
    | fail)
  go_ret
  exact ⟨rfl, hb1⟩
end Go.Proofs.Ytjojhhkbebddmaa
namespace Go.Proofs.Ytjojhhkbebddmaa
open Go.ChangeShapes Go.WideShapes Go.ChangeAt Go.RowKit Go.WideMaps Go.WideElems
set_option linter.unusedVariables false
theorem own : ownKnob Try.prog.godebug = none := by kernel_rfl
theorem laidOut : laidOutB Try.prog = true := by kernel_rfl
theorem cells3 : Try.prog.cellsOf 3 = 1 := by kernel_rfl
theorem cells4 : Try.prog.cellsOf 4 = 1 := by kernel_rfl
theorem cells49 : Try.prog.cellsOf 49 = 2 := by kernel_rfl
theorem cells78 : Try.prog.cellsOf 78 = 12 := by kernel_rfl
theorem uncons {α : Type} {l : List α} {n : Nat} (h : l.length = n + 1) : ∃ a t, l = a :: t ∧ t.length = n := by
  cases l with
  | nil => simp at h
  | cons a t => exact ⟨a, t, rfl, by simpa using h⟩
theorem list_of {α : Type} (P : Nat → α → Prop) : ∀ n, (∀ i, i < n → ∃ c, P i c) → ∃ cs : List α, cs.length = n ∧ ∀ i c, cs[i]? = some c → P i c
  | 0, _ => ⟨[], rfl, fun i c h => by simp at h⟩
  | n + 1, h => by
    obtain ⟨cs, hl, hc⟩ := list_of P n fun i hi => h i (by omega)
    obtain ⟨c, hP⟩ := h n (by omega)
    refine ⟨cs ++ [c], by simp [hl], fun i c' hi => ?_⟩
    by_cases hin : i < n
    · rw [List.getElem?_append_left (by omega)] at hi
      exact hc i c' hi
    · rw [List.getElem?_append_right (by omega)] at hi
      by_cases e0 : i - cs.length = 0
      · rw [e0] at hi
        cases hi
        rw [show i = n from by omega]
        exact hP
      · rw [List.getElem?_eq_none (by simp; omega)] at hi; cases hi
theorem one_bulk {H : Type} (d : DataW H) : 1 ≤ Rows.uptoBulk d := by
  cases d with
  | lit l => cases l <;> simp [Rows.uptoBulk]
  | nil => simp [Rows.uptoBulk]
  | ptr d => simp [Rows.uptoBulk]
  | slice elems spare => simp [Rows.uptoBulk]
  | agg parts => simp [Rows.uptoBulk]
  | iface t d => simp [Rows.uptoBulk]
  | map entries => simp [Rows.uptoBulk]
  | held h => simp [Rows.uptoBulk]
theorem length_bulk {H : Type} (l : List (DataW H)) : l.length ≤ Rows.uptoBulkAll l := by
  induction l with
  | nil => simp [Rows.uptoBulkAll]
  | cons x r ih => have := one_bulk x; simp only [Rows.uptoBulkAll, List.length_cons]; omega
section
variable {H : Type} {enc : TypeId × Value → H} {W : World} {fuel : Nat} {cs : List Value} {x : DataW H × List MemPlace}
set_option maxRecDepth 100000
set_option maxHeartbeats 1600000
theorem spot_none {a : Addr} {v : Value} (h : W.cell? a = some v) : a.spot = none := by
  cases hs : a.spot with
  | none => rfl
  | some k =>
    rw [World.cell?] at h
    split at h
    · rw [hs] at h; simp at h
    · cases h
theorem add_none {a : Addr} (hs : a.spot = none) (k : Nat) : a.add k = ⟨a.block, a.off + k, none⟩ := by
  unfold Addr.add
  split
  · rename_i e; subst e; obtain ⟨b, o, s⟩ := a; simp only at hs; subst hs; rfl
  · rfl
theorem t_int {t : TypeId} (hu : Try.prog.underlying t = some (.int .i64)) (h : DataW.trod enc Try.prog W 0 (fun _ => true) true fuel t cs = some x) : ∃ z, cs = [.int .i64 z] := by
  obtain ⟨z, e, _, hw⟩ := DataW.trod_int hu h
  exact ⟨z, e⟩
theorem t_bool (h : DataW.trod enc Try.prog W 0 (fun _ => true) true fuel 4 cs = some x) : ∃ b, cs = [.bool b] := by
  obtain ⟨b, e, _⟩ := DataW.trod_bool Try.underlying4 h
  exact ⟨b, e⟩
/-- An epoch that came in. -/
theorem t_ep (h : DataW.trod enc Try.prog W 0 (fun _ => true) true fuel 49 cs = some x) : ∃ a b, cs = [.int .i64 a, .int .i64 b] := by
  obtain ⟨xs, mm, _, hx, hl, hxl, hf⟩ := DataW.trod_struct Try.underlying49 h
  have hxl' : xs.length = 2 := hxl
  rw [cells49] at hl
  obtain ⟨c0, l1, rfl, k1⟩ := uncons hl
  obtain ⟨c1, l2, rfl, k2⟩ := uncons k1
  obtain rfl := List.eq_nil_of_length_eq_zero k2
  have y0 : xs[0]? = some xs[0] := List.getElem?_eq_getElem (by omega)
  have h0 : DataW.trod enc Try.prog W 0 (fun _ => true) true mm 3 [c0] = some xs[0] := by
    have e : DataW.trod enc Try.prog W 0 (fun _ => true) true mm 3 (List.take (Try.prog.cellsOf 3) (List.drop 0 [c0, c1])) = xs[0]? := hf 0 _ rfl
    rw [cells3, y0] at e
    exact e
  obtain ⟨z0, e0⟩ := t_int Try.underlying3 h0
  have y1 : xs[1]? = some xs[1] := List.getElem?_eq_getElem (by omega)
  have h1 : DataW.trod enc Try.prog W 0 (fun _ => true) true mm 3 [c1] = some xs[1] := by
    have e : DataW.trod enc Try.prog W 0 (fun _ => true) true mm 3 (List.take (Try.prog.cellsOf 3) (List.drop 1 [c0, c1])) = xs[1]? := hf 1 _ rfl
    rw [cells3, y1] at e
    exact e
  obtain ⟨z1, e1⟩ := t_int Try.underlying3 h1
  cases e0; cases e1
  exact ⟨z0, z1, rfl⟩
/-- A call that came in. -/
theorem t_call (h : DataW.trod enc Try.prog W 0 (fun _ => true) true fuel 78 cs = some x) : ∃ c : Cl, cs = c.cells.toList := by
  obtain ⟨xs, mm, _, hx, hl, hxl, hf⟩ := DataW.trod_struct Try.underlying78 h
  have hxl' : xs.length = 10 := hxl
  rw [cells78] at hl
  obtain ⟨c0, l1, rfl, k1⟩ := uncons hl
  obtain ⟨c1, l2, rfl, k2⟩ := uncons k1
  obtain ⟨c2, l3, rfl, k3⟩ := uncons k2
  obtain ⟨c3, l4, rfl, k4⟩ := uncons k3
  obtain ⟨c4, l5, rfl, k5⟩ := uncons k4
  obtain ⟨c5, l6, rfl, k6⟩ := uncons k5
  obtain ⟨c6, l7, rfl, k7⟩ := uncons k6
  obtain ⟨c7, l8, rfl, k8⟩ := uncons k7
  obtain ⟨c8, l9, rfl, k9⟩ := uncons k8
  obtain ⟨c9, l10, rfl, k10⟩ := uncons k9
  obtain ⟨c10, l11, rfl, k11⟩ := uncons k10
  obtain ⟨c11, l12, rfl, k12⟩ := uncons k11
  obtain rfl := List.eq_nil_of_length_eq_zero k12
  have y0 : xs[0]? = some xs[0] := List.getElem?_eq_getElem (by omega)
  have h0 : DataW.trod enc Try.prog W 0 (fun _ => true) true mm 3 [c0] = some xs[0] := by
    have e : DataW.trod enc Try.prog W 0 (fun _ => true) true mm 3 (List.take (Try.prog.cellsOf 3) (List.drop 0 [c0, c1, c2, c3, c4, c5, c6, c7, c8, c9, c10, c11])) = xs[0]? := hf 0 _ rfl
    rw [cells3, y0] at e
    exact e
  obtain ⟨z0, e0⟩ := t_int Try.underlying3 h0
  have y1 : xs[1]? = some xs[1] := List.getElem?_eq_getElem (by omega)
  have h1 : DataW.trod enc Try.prog W 0 (fun _ => true) true mm 3 [c1] = some xs[1] := by
    have e : DataW.trod enc Try.prog W 0 (fun _ => true) true mm 3 (List.take (Try.prog.cellsOf 3) (List.drop 1 [c0, c1, c2, c3, c4, c5, c6, c7, c8, c9, c10, c11])) = xs[1]? := hf 1 _ rfl
    rw [cells3, y1] at e
    exact e
  obtain ⟨z1, e1⟩ := t_int Try.underlying3 h1
  have y2 : xs[2]? = some xs[2] := List.getElem?_eq_getElem (by omega)
  have h2 : DataW.trod enc Try.prog W 0 (fun _ => true) true mm 3 [c2] = some xs[2] := by
    have e : DataW.trod enc Try.prog W 0 (fun _ => true) true mm 3 (List.take (Try.prog.cellsOf 3) (List.drop 2 [c0, c1, c2, c3, c4, c5, c6, c7, c8, c9, c10, c11])) = xs[2]? := hf 2 _ rfl
    rw [cells3, y2] at e
    exact e
  obtain ⟨z2, e2⟩ := t_int Try.underlying3 h2
  have y3 : xs[3]? = some xs[3] := List.getElem?_eq_getElem (by omega)
  have h3 : DataW.trod enc Try.prog W 0 (fun _ => true) true mm 3 [c3] = some xs[3] := by
    have e : DataW.trod enc Try.prog W 0 (fun _ => true) true mm 3 (List.take (Try.prog.cellsOf 3) (List.drop 3 [c0, c1, c2, c3, c4, c5, c6, c7, c8, c9, c10, c11])) = xs[3]? := hf 3 _ rfl
    rw [cells3, y3] at e
    exact e
  obtain ⟨z3, e3⟩ := t_int Try.underlying3 h3
  have y4 : xs[4]? = some xs[4] := List.getElem?_eq_getElem (by omega)
  have h4 : DataW.trod enc Try.prog W 0 (fun _ => true) true mm 3 [c4] = some xs[4] := by
    have e : DataW.trod enc Try.prog W 0 (fun _ => true) true mm 3 (List.take (Try.prog.cellsOf 3) (List.drop 4 [c0, c1, c2, c3, c4, c5, c6, c7, c8, c9, c10, c11])) = xs[4]? := hf 4 _ rfl
    rw [cells3, y4] at e
    exact e
  obtain ⟨z4, e4⟩ := t_int Try.underlying3 h4
  have y5 : xs[5]? = some xs[5] := List.getElem?_eq_getElem (by omega)
  have h5 : DataW.trod enc Try.prog W 0 (fun _ => true) true mm 4 [c5] = some xs[5] := by
    have e : DataW.trod enc Try.prog W 0 (fun _ => true) true mm 4 (List.take (Try.prog.cellsOf 4) (List.drop 5 [c0, c1, c2, c3, c4, c5, c6, c7, c8, c9, c10, c11])) = xs[5]? := hf 5 _ rfl
    rw [cells4, y5] at e
    exact e
  obtain ⟨z5, e5⟩ := t_bool h5
  have y6 : xs[6]? = some xs[6] := List.getElem?_eq_getElem (by omega)
  have h6 : DataW.trod enc Try.prog W 0 (fun _ => true) true mm 4 [c6] = some xs[6] := by
    have e : DataW.trod enc Try.prog W 0 (fun _ => true) true mm 4 (List.take (Try.prog.cellsOf 4) (List.drop 6 [c0, c1, c2, c3, c4, c5, c6, c7, c8, c9, c10, c11])) = xs[6]? := hf 6 _ rfl
    rw [cells4, y6] at e
    exact e
  obtain ⟨z6, e6⟩ := t_bool h6
  have y7 : xs[7]? = some xs[7] := List.getElem?_eq_getElem (by omega)
  have h7 : DataW.trod enc Try.prog W 0 (fun _ => true) true mm 3 [c7] = some xs[7] := by
    have e : DataW.trod enc Try.prog W 0 (fun _ => true) true mm 3 (List.take (Try.prog.cellsOf 3) (List.drop 7 [c0, c1, c2, c3, c4, c5, c6, c7, c8, c9, c10, c11])) = xs[7]? := hf 7 _ rfl
    rw [cells3, y7] at e
    exact e
  obtain ⟨z7, e7⟩ := t_int Try.underlying3 h7
  have y8 : xs[8]? = some xs[8] := List.getElem?_eq_getElem (by omega)
  have h8 : DataW.trod enc Try.prog W 0 (fun _ => true) true mm 49 [c8, c9] = some xs[8] := by
    have e : DataW.trod enc Try.prog W 0 (fun _ => true) true mm 49 (List.take (Try.prog.cellsOf 49) (List.drop 8 [c0, c1, c2, c3, c4, c5, c6, c7, c8, c9, c10, c11])) = xs[8]? := hf 8 _ rfl
    rw [cells49, y8] at e
    exact e
  obtain ⟨z8, u8, e8⟩ := t_ep h8
  have y9 : xs[9]? = some xs[9] := List.getElem?_eq_getElem (by omega)
  have h9 : DataW.trod enc Try.prog W 0 (fun _ => true) true mm 49 [c10, c11] = some xs[9] := by
    have e : DataW.trod enc Try.prog W 0 (fun _ => true) true mm 49 (List.take (Try.prog.cellsOf 49) (List.drop 10 [c0, c1, c2, c3, c4, c5, c6, c7, c8, c9, c10, c11])) = xs[9]? := hf 9 _ rfl
    rw [cells49, y9] at e
    exact e
  obtain ⟨z9, u9, e9⟩ := t_ep h9
  clear hf h hl
  cases e0; cases e1; cases e2; cases e3; cases e4; cases e5; cases e6; cases e7; cases e8; cases e9
  exact ⟨⟨z0, z1, z2, z3, z4, z5, z6, z7, ⟨z8, u8⟩, ⟨z9, u9⟩⟩, rfl⟩
/-- The calls that came in. -/
theorem t_calls (h : DataW.trod enc Try.prog W 0 (fun _ => true) true fuel 37 cs = some x) (hk : Rows.uptoBulk x.1 ≤ 1048576) :
    ∃ (ao : Option Addr) (cv : Nat) (xs : List Cl), cs = [.slice ao xs.length cv] ∧ ScrIn W ao xs ∧ xs.length ≤ 1048576 := by
  rcases DataW.trod_slice Try.underlying37 h with ⟨hcs, _⟩ | ⟨a, len, cap, elems, rest, mm, _, hcs, hx, _, hl, hm, hel, he, _, _⟩
  · exact ⟨none, 0, [], hcs, (fun i x h => by simp at h), by simp⟩
  · rw [cells78] at he
    have hbk : Rows.uptoBulkAll (elems.map (·.1)) ≤ 1048576 := by
      rw [hx] at hk
      simp only [Rows.uptoBulk] at hk
      omega
    have hlb := length_bulk (elems.map (·.1))
    rw [List.length_map] at hlb
    obtain ⟨vs, hvl, hv⟩ := list_of (fun i (v : Cl) => ∀ j c, v.cells[j]? = some c → W.cell? ((a.add (i * 12)).add j) = some c) len fun i hi => by
      have h1 := he i hi
      rw [List.getElem?_eq_getElem (by omega), Option.bind_eq_some_iff] at h1
      obtain ⟨cs', hcs', ht⟩ := h1
      obtain ⟨_, hl', hcell⟩ := World.cells?_some hcs'
      obtain ⟨v, rfl⟩ := t_call ht
      refine ⟨v, fun j c hc => ?_⟩
      have hj : j < 12 := by have := (Array.getElem?_eq_some_iff.1 hc).1; simpa [Cl.cells] using this
      rw [hcell j hj, ← hc, ← Array.getElem?_toList]
    refine ⟨some a, cap, vs, by rw [hvl]; exact hcs, fun i v hi => ?_, by omega⟩
    have hp0 : 0 < vs.length := by have := (List.getElem?_eq_some_iff.1 hi).1; omega
    have h00 := hv 0 vs[0] (List.getElem?_eq_getElem hp0) 0 _ rfl
    have hs : a.spot = none := by
      have := spot_none h00
      simpa [Addr.add] using this
    have hcell : ∀ j c, v.cells[j]? = some c → W.cell? ⟨a.block, a.off + i * 12 + j, none⟩ = some c := fun j c hc => by
      have := hv i v hi j c hc
      rwa [add_none hs, add_none rfl] at this
    refine ⟨a.block, a.off, by obtain ⟨b, o, s⟩ := a; simp only at hs; subst hs; rfl, ?_, hcell⟩
    exact World.block_lt_of_cell? W (a := ⟨a.block, a.off + i * 12 + 0, none⟩) (hcell 0 _ rfl)
end
set_option maxRecDepth 100000 in
/-- A []Call that came in. -/
theorem open_calls {H : Type} {enc : TypeId × Value → H} {W : World} {base : Nat} {v : Value} {d : DataW H} {p : List MemPlace} (hval : Value.okWide Try.prog W .any base 37 v) (h0 : DataW.Trod enc Try.prog W 0 (fun _ => true) true 37 v d p) (hk : Rows.uptoBulk d ≤ 1048576) :
    ∃ (ao : Option Addr) (cv : Nat) (xs : List Cl), v = .slice ao xs.length cv ∧ ScrIn W ao xs ∧ xs.length ≤ 1048576 := by
  obtain ⟨a0, len, cap, rfl⟩ := okWide_slice Try.underlying37 hval
  obtain ⟨fuel, hf⟩ := h0
  obtain ⟨ao, cv, xs, e, h1, h2⟩ := t_calls hf hk
  exact ⟨ao, cv, xs, by simpa [Value.cells] using e, h1, h2⟩
end Go.Proofs.Ytjojhhkbebddmaa
