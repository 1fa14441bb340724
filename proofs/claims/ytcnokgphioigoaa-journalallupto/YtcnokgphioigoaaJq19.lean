import Derived.Test.YtcnokgphioigoaaJq14
import Derived.Test.YtcnokgphioigoaaJq15
import Derived.Test.YtcnokgphioigoaaJq16
import Derived.Test.YtcnokgphioigoaaJq17
import Derived.Test.YtcnokgphioigoaaJq18
namespace Go.Proofs.Ytcnokgphioigoaa
open Go.RowKit Go.PlainAid
set_option linter.unusedVariables false
set_option linter.unusedSimpArgs false
/-- One call of a script, with the bytes that it brings. -/
structure Ak where
  k : Int
  a : Int
  n : Int
  bo : Option Addr
  bn : Nat
  bc : Nat
  bs : List UInt8
def Ak.row (c : Ak) : Array Value := #[.int .i64 c.k, .int .i64 c.a, .int .i64 c.n, .slice c.bo c.bn c.bc]
structure Ak.Ok (c : Ak) (w : World) : Prop where
  a2 : c.a ≤ 9223372036854775807
  n1 : -9223372036854775808 ≤ c.n
  n2 : c.n ≤ 9223372036854775807
  len : c.bs.length = c.bn
  le : c.bn ≤ 1048576
  by' : By w (.slice c.bo c.bn c.bc) c.bs
section
variable {σ : Type} {L sb : Nat} {KK : Keeper σ L sb} {d : DK} {y : JV} {s : σ} {R : List (Ent L)}
theorem played_any (c : Ak) (w : World) (h : Held (d.es L d.x (JE L d.jb y d.dead) (kE KK s :: R)) w) (hd : DKO d y) (hsb : d.sb = sb) (hall : ∀ W, Below L w W → By W (.slice c.bo c.bn c.bc) c.bs) (hc : ∃ w0, c.Ok w0) (hwr : d.x.writes ≤ 800000000000000000) (hcn : KK.cnt s ≤ 1000000000000) :
    Calls Try.prog 45 #[.pointer (some ⟨d.kb, 0, none⟩), .agg c.row] w (PlQ KK d s R w) := by
  obtain ⟨w0, hc⟩ := hc
  have a2 := hc.a2
  have n1 := hc.n1
  have n2 := hc.n2
  have hl := hc.len
  have hle := hc.le
  obtain ⟨k, a, n, bo, bn, bc, bs⟩ := c
  simp only at a2 n1 n2 hl hle hall
  show Calls Try.prog 45 #[.pointer (some ⟨d.kb, 0, none⟩), .agg #[.int .i64 k, .int .i64 a, .int .i64 n, .slice bo bn bc]] w (PlQ KK d s R w)
  by_cases h1 : k = 1
  · subst h1
    exact played_append a n w h hd hsb hall hl (by omega) hwr
  by_cases h2 : k = 2
  · subst h2
    exact played_looks a n w h hd hsb
  by_cases h3 : k = 3
  · subst h3
    cases hdd : d.dead with
    | true => exact played_atNo a n w h hd hsb (.inl hdd)
    | false =>
      by_cases h0 : 0 ≤ a
      · by_cases hi : a < (d.hs.length : Int)
        · exact played_atYes a n w h hd hsb hdd h0 hi hcn
        · exact played_atNo a n w h hd hsb (.inr (.inr (by omega)))
      · exact played_atNo a n w h hd hsb (.inr (.inl (by omega)))
  by_cases h4 : k = 4
  · subst h4
    cases ho : d.x.off with
    | true => exact played_openOff a n w h hd hsb ho hwr
    | false => exact played_openOn a n w h hd hsb ho hwr
  by_cases h5 : k = 5
  · subst h5
    cases ho : d.x.off with
    | true => exact played_armOff a n w h hd hsb ho
    | false =>
      by_cases h0 : a < 0
      · exact played_armNeg a n w h hd hsb ho h0 a2 n1 n2
      · exact played_armPos a n w h hd hsb ho (by omega) a2 n1 n2
  by_cases h6 : k = 6
  · subst h6
    exact played_off a n w h hd hsb
  by_cases h7 : k = 7
  · subst h7
    cases ho : d.on with
    | true => exact played_on a n w h hd hsb ho
    | false => exact played_onOff a n w h hd hsb ho
  exact played_other k a n w h hd hsb (by omega)
end
/-- The shelf that writes over at once. -/
def early (L kb : Nat) : Keeper Sh.ES L kb where
  Inv s w := Sh.KE L kb s w
  bl s := Sh.KB kb s
  cnt s := s.e.length
  lt h hk := h.lt hk
  fr s w w' h hP := ⟨(h kb (.inl rfl)).trans hP.blk, ⟨ownsRow_same hP.b.xi (fun g e => h g (.inr (.inl e))), ownsRow_same hP.b.xm (fun g e => h g (.inr (.inr (.inl e)))), fun x hx => ownsRow_same (hP.b.en x hx) (fun g e => h g (.inr (.inr (.inr ⟨x, hx, e⟩))))⟩, hP.mb, hP.lk⟩
  put h hl hap hn hc := Sh.putB_any _ h hl hap hn hc
  whole h hc := (Sh.whole_early _ h).mono fun r w' ⟨h1, q, h2⟩ => ⟨h1, by rw [h2]; exact (Chg.refl _ _).drewN q⟩
/-- The shelf that leaves all as it is, until the end. -/
def late (L kb : Nat) : Keeper Sh.LS L kb where
  Inv s w := Sh.KL L kb s w
  bl s := Sh.KLB kb s
  cnt s := s.e.length
  lt h hk := h.lt hk
  fr s w w' h hP := ⟨(h kb (.inl rfl)).trans hP.blk, ⟨ownsRow_same hP.b.xi (fun g e => h g (.inr (.inl e))), ownsRow_same hP.b.xw (fun g e => h g (.inr (.inr (.inl e)))), fun x hx => ownsRow_same (hP.b.el x hx) (fun g e => h g (.inr (.inr (.inr ⟨x, hx, .inl e⟩)))), fun x hx => ownsRow_same (hP.b.ew x hx) (fun g e => h g (.inr (.inr (.inr ⟨x, hx, .inr e⟩)))), hP.b.ln, hP.b.gd, hP.b.iw, hP.b.dj⟩, hP.lk⟩
  put {s w l bs} h hl hap hn hc := Sh.put_lateB w h hl ⟨bs, rfl, rfl⟩ hap hn hc
  whole {s w} h hc := Sh.whole_late w h hc
structure KFam (σ : Type) (L : Nat) (lt : Bool) where
  K : ∀ kb : Nat, Keeper σ L kb
  s0 : σ
  inv0 : ∀ (kb : Nat) (W : World), Blk W kb #[.bool lt, .slice none 0 0, .slice none 0 0, .slice none 0 0] 86 → L ≤ kb → (K kb).Inv s0 W
  bl0 : ∀ (kb k : Nat), (K kb).bl s0 k → k = kb
  cnt0 : ∀ kb, (K kb).cnt s0 = 0
def earlyF (L : Nat) : KFam Sh.ES L false where
  K := early L
  s0 := Sh.ES0
  inv0 kb W hB hl := Sh.KE.new hB hl
  bl0 kb k hk := Sh.KB0 hk
  cnt0 kb := rfl
def lateF (L : Nat) : KFam Sh.LS L true where
  K := late L
  s0 := ⟨.slice none 0 0, .slice none 0 0, []⟩
  inv0 kb W hB hl := show Sh.KL L kb _ W from ⟨hB, ⟨World.ownsRow_nil _ _ _ _, World.ownsRow_nil _ _ _ _, fun e he => (by cases he), fun e he => (by cases he), fun e he => (by cases he), fun e he => (by cases he), fun g e => (by cases e), List.Pairwise.nil⟩, hl⟩
  bl0 kb k hk := by
    have hk' : Sh.KLB kb ⟨.slice none 0 0, .slice none 0 0, []⟩ k := hk
    rcases hk' with q | q | q | ⟨x, hx, q⟩
    · exact q
    · cases q
    · cases q
    · cases hx
  cnt0 kb := rfl
end Go.Proofs.Ytcnokgphioigoaa
