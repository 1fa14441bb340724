import Derived.Test.YtjpdcahodmomgaaJn19
import Derived.Test.YtjpdcahodmomgaaJn13
import Derived.BigQuiet
import Derived.Deep.Cut
import Derived.Deep.RegionWith
namespace Go.Proofs.Ytjpdcahodmomgaa
open Go.RowKit Go.PlainAid
set_option linter.unusedVariables false
set_option linter.unusedSimpArgs false
def ptrA (js : List JD) (k : Nat) : Value := match js[k]? with
  | some j => .pointer (some ⟨j.jb, 0, none⟩)
  | none => .pointer none
def arrA (js : List JD) : Array Value := #[ptrA js 0, ptrA js 1, ptrA js 2]
theorem arrA_push (js : List JD) (a : JD) (h : js.length < 3) : (arrA js).setIfInBounds js.length (.pointer (some ⟨a.jb, 0, none⟩)) = arrA (js ++ [a]) := by
  match js, h with
  | [], _ => rfl
  | [x], _ => rfl
  | [x, y], _ => rfl
theorem Held.dropRow {L g n c : Nat} {bs : List UInt8} {es : List (Ent L)} {w w' : World} (h : Held (datE L (.slice (some ⟨g, 0, none⟩) n c, bs) :: es) w) (hc : Chg (fun k => k = g) w w') : Held es w' := by
  refine (Held.drop h).chg hc (fun k hk e => ?_)
  subst e
  exact Held.apart (e := datE L (.slice (some ⟨k, 0, none⟩) n c, bs)) h rfl hk
/-- Values that hold the lists. -/
def Vals (w : World) (xs : List Value) (ls : List (List UInt8)) : Prop := xs.length = ls.length ∧ ∀ (k : Nat) bs, ls[k]? = some bs → ∃ uo n uc, xs[k]? = some (Value.slice uo n uc) ∧ By w (Value.slice uo n uc) bs
theorem Vals.push {w : World} {xs : List Value} {ls : List (List UInt8)} (h : Vals w xs ls) {uo : Option Addr} {n uc : Nat} {bs : List UInt8} (hb : By w (.slice uo n uc) bs) : Vals w (xs ++ [.slice uo n uc]) (ls ++ [bs]) := by
  refine ⟨by simp [h.1], fun k b hk => ?_⟩
  by_cases hlt : k < ls.length
  · rw [List.getElem?_append_left hlt] at hk
    obtain ⟨uo', n', uc', e1, e2⟩ := h.2 k b hk
    exact ⟨uo', n', uc', by rw [List.getElem?_append_left (by rw [h.1]; exact hlt)]; exact e1, e2⟩
  · rw [List.getElem?_append_right (by omega)] at hk
    have h0 : k - ls.length = 0 := by
      have := (List.getElem?_eq_some_iff.1 hk).1
      simp at this; omega
    rw [h0] at hk
    cases hk
    exact ⟨uo, n, uc, by rw [List.getElem?_append_right (by rw [h.1]; omega), h.1, h0]; rfl, hb⟩
theorem rows_tail {L : Nat} {w W : World} {wv : Value} {xs : List Value} {ls : List (List UInt8)} (ht : Tail W L 38 wv xs.length xs) (hv : Vals w xs ls) (hb : ∀ uo n uc bs, By w (.slice uo n uc) bs → By W (.slice uo n uc) bs) : Rows W wv ls := by
  obtain ⟨ao, c, e⟩ := tail_val ht
  refine ⟨ao, c, by rw [e, (show xs.length = ls.length from hv.1)], fun i bs hi => ?_⟩
  obtain ⟨uo, n, uc, e1, e2⟩ := hv.2 i bs hi
  obtain ⟨g, off, cap, e3, e4⟩ := tail_at ht e1
  rw [e3] at e
  cases e
  exact ⟨g, off, uo, n, uc, rfl, e4, hb _ _ _ _ e2⟩
/-- Three journals, the first and the third alike. -/
structure ApS (L A : Nat) (w : World) (ls : List (List UInt8)) (i : Nat) (wv : Value) (a b c : JD) (wr : World) : Prop where
  ex : ∃ xs, Held (boxE L A (arrA [a, b, c]) 32 :: tailE L 38 wv xs.length xs :: (a.es L ++ (b.es L ++ c.es L))) wr ∧ Vals w xs ls
  oa : a.Ok i
  ob : b.Ok i
  oc : c.Ok i
  la : a.ls = ls
  lc : c.ls = ls
  nx : a.y.next = c.y.next
  ln : ls.length ≤ i
  bl : Below L w wr
theorem new_jd {L A : Nat} {js : List JD} (w wr : World) (h : Held (boxE L A (arrA js) 32 :: js.flatMap (JD.es L)) wr) (hb : Below L w wr) (hL : L ≤ wr.heap.size) :
    Calls Try.prog 13 #[.int .i64 300] wr fun e w1 => ∃ p s, e = .returned (.tuple #[.pointer (some ⟨p, 0, none⟩), .int .i64 0]) ∧ Held (dmE L p s (fresh 300) :: boxE L A (arrA js) 32 :: js.flatMap (JD.es L)) w1 ∧ Below L w w1 := by
  refine (new_yes 300 wr (by omega)).mono ?_
  rintro e w1 ⟨h1, h2, h3⟩
  refine ⟨_, _, h1, Held.fresh h h3 (h2.low hL) (fun k hk => ?_), hb.trans (h3.mono hL)⟩
  rcases hk with hk | hk <;> omega
theorem open_jd {L A p s : Nat} {js : List JD} (w w1 : World) (h : Held (dmE L p s (fresh 300) :: boxE L A (arrA js) 32 :: js.flatMap (JD.es L)) w1) (hb : Below L w w1) (hL : L ≤ w1.heap.size) :
    Calls Try.prog 14 #[.pointer (some ⟨p, 0, none⟩)] w1 fun e w2 => ∃ jb a, e = .returned (.tuple #[.pointer (some ⟨jb, 0, none⟩), .int .i64 0]) ∧ a = JD.mk jb s (jv0 p 300) (fresh 300) ∧ Held (boxE L A (arrA js) 32 :: (js ++ [a]).flatMap (JD.es L)) w2 ∧ Below L w w2 := by
  refine (open_fresh w1 h (by omega) (by omega)).mono ?_
  rintro e w2 ⟨jb, h1, h2, h3⟩
  refine ⟨jb, _, h1, rfl, h2.perm ?_, hb.trans (h3.mono hL)⟩
  have e1 : (js ++ [JD.mk jb s (jv0 p 300) (fresh 300)]).flatMap (JD.es L) = js.flatMap (JD.es L) ++ ((jv0 p 300).es L jb ++ [dmE L p s (fresh 300)]) := by
    rw [List.flatMap_append]
    simp [JD.es, jv0]
  rw [e1]
  have e2 : ((jv0 p 300).es L jb ++ (dmE L p s (fresh 300) :: boxE L A (arrA js) 32 :: js.flatMap (JD.es L))) = (((jv0 p 300).es L jb ++ [dmE L p s (fresh 300)]) ++ (boxE L A (arrA js) 32 :: js.flatMap (JD.es L))) := by simp
  rw [e2]
  exact List.perm_append_comm
end Go.Proofs.Ytjpdcahodmomgaa
