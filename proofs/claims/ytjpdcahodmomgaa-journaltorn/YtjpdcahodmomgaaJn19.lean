import Derived.Test.YtjpdcahodmomgaaJn18
import Derived.Test.YtjpdcahodmomgaaJn17
import Derived.Test.YtjpdcahodmomgaaJn14
namespace Go.Proofs.Ytjpdcahodmomgaa
open Go.ChangeShapes Go.WideShapes Go.ChangeAt Go.RowKit Go.WideMaps Go.WideElems Go.PlainAid
set_option linter.unusedVariables false
set_option linter.unusedSimpArgs false
/-- A journal with its disk. -/
structure JD where
  jb : Nat
  s : Nat
  y : JV
  x : DV
def JD.es (L : Nat) (a : JD) : List (Ent L) := a.y.es L a.jb ++ [dmE L a.y.p a.s a.x]
def JD.ls (a : JD) : List (List UInt8) := a.y.recs.map Prod.snd
structure JD.Ok (i : Nat) (a : JD) : Prop where
  off : a.x.off = false
  armed : a.x.armed = false
  whole : a.x.whole = 0
  writes : a.x.writes ≤ 17 * i
  recs : a.y.recs.length ≤ i
  next : a.y.next ≤ 17 * i
  fin : a.y.fin = 300
  n : a.x.n = 300
  le : ∀ d ∈ a.y.recs, d.2.length ≤ 8192
def apC (bs : List UInt8) : Int := if bs.length ≤ 8192 then 0 else 2
def apL (bs : List UInt8) : List (List UInt8) := if bs.length ≤ 8192 then [bs] else []
def apN (bs : List UInt8) : Nat := if bs.length ≤ 8192 then kS bs.length else 0
theorem JD.Ok.up {i : Nat} {a : JD} (h : a.Ok i) : a.Ok (i + 1) := ⟨h.off, h.armed, h.whole, by have := h.writes; omega, by have := h.recs; omega, by have := h.next; omega, h.fin, h.n, h.le⟩
theorem jd_append {L i : Nat} {a : JD} {R : List (Ent L)} {vo : Option Addr} {n c : Nat} {bs : List UInt8} (w : World) (h : Held (a.es L ++ R) w) (hok : a.Ok i) (hi : i < 12) (hb : ∀ W, Below L w W → Held R W → By W (.slice vo n c) bs) (hc : n ≤ c) (hn : n ≤ 140737488355328) :
    Calls Try.prog 16 #[.pointer (some ⟨a.jb, 0, none⟩), .slice vo n c] w fun e w' => e = .returned (.int .i64 (apC bs)) ∧ ∃ a' : JD, a'.jb = a.jb ∧ Held (a'.es L ++ R) w' ∧ a'.Ok (i + 1) ∧ a'.ls = a.ls ++ apL bs ∧ a'.y.next = a.y.next + apN bs ∧ Below L w w' := by
  have h' : Held (a.y.es L a.jb ++ (dmE L a.y.p a.s a.x :: R)) w := by simpa [JD.es, List.append_assoc] using h
  have hbl : bs.length = n := by
    obtain ⟨_, _, _, e, e2, _⟩ := hb w (Below.refl _ _) (Held.drop (Held.tailR h'))
    cases e; exact e2
  by_cases h8 : n ≤ 8192
  · have hk := kS_le n h8
    have hx := hok.next
    have e1 : apC bs = 0 := by unfold apC; rw [if_pos (by omega)]
    have e2 : apL bs = [bs] := by unfold apL; rw [if_pos (by omega)]
    have e3 : apN bs = kS n := by unfold apN; rw [if_pos (by omega), hbl]
    rw [e1, e2, e3]
    refine (append_ok w h' hb hc h8 hok.off hok.armed (by rw [hok.whole]; omega) (by have := hok.writes; omega) (by have := hok.recs; omega) (by rw [hok.fin]; omega) (by rw [hok.fin, hok.n]) (by rw [hok.n]; omega)).mono ?_
    rintro e w' ⟨rfl, rv', v', h1, h2⟩
    have hw := wroteX_facts a.x (a.y.recs.length + 1) a.y.next bs hok.armed (kS n)
    refine ⟨rfl, ⟨a.jb, a.s, a.y.added rv' v' bs, wroteX a.x (a.y.recs.length + 1) a.y.next bs (kS n)⟩, rfl, by simpa [JD.es, List.append_assoc, JV.added] using h1, ⟨hw.1.trans hok.off, hw.2.2.1, hw.2.2.2.1.trans hok.whole, ?_, ?_, ?_, hok.fin, hw.2.1.trans hok.n, fun d hd => ?_⟩, ?_, ?_, h2⟩
    · show (wroteX a.x (a.y.recs.length + 1) a.y.next bs (kS n)).writes ≤ _
      rw [hw.2.2.2.2]
      have := hok.writes
      omega
    · show (a.y.recs ++ [(v', bs)]).length ≤ _
      have := hok.recs
      simp; omega
    · show a.y.next + kS bs.length ≤ _
      rw [hbl]; omega
    · rcases List.mem_append.1 hd with h3 | h3
      · exact hok.le d h3
      · rw [List.mem_singleton.1 h3]; show bs.length ≤ 8192; omega
    · show (a.y.recs ++ [(v', bs)]).map Prod.snd = _
      rw [List.map_append]; rfl
    · show a.y.next + kS bs.length = _
      rw [hbl]
  · have e1 : apC bs = 2 := by unfold apC; rw [if_neg (by omega)]
    have e2 : apL bs = [] := by unfold apL; rw [if_neg (by omega)]
    have e3 : apN bs = 0 := by unfold apN; rw [if_neg (by omega)]
    rw [e1, e2, e3]
    refine (append_long w h' (by omega) (by omega) hok.off).mono ?_
    rintro e w' ⟨rfl, h1, h2⟩
    exact ⟨rfl, a, rfl, by simpa [JD.es, List.append_assoc] using h1, hok.up, by simp, rfl, h2⟩
theorem DM.low {L L' p s : Nat} {x : DV} {w : World} (h : DM L p s x w) (hl : L' ≤ L) : DM L' p s x w := ⟨h.box, h.sec, ⟨Nat.le_trans hl h.lo.1, Nat.le_trans hl h.lo.2⟩, h.nb⟩
/-- A list that came in. -/
def RowsA (w : World) (v : Value) (ls : List (List UInt8)) : Prop := ∃ ao c, v = .slice ao ls.length c ∧ ls.length ≤ 9223372036854775807 ∧ ∀ i bs, ls[i]? = some bs → ∃ b off uo k uc, ao = some ⟨b, off, none⟩ ∧ w.cell? ⟨b, off + i, none⟩ = some (.slice uo k uc) ∧ By w (.slice uo k uc) bs ∧ k ≤ uc ∧ bs.length ≤ 140737488351232
theorem RowsA.more {w w' : World} {v : Value} {ls : List (List UInt8)} (h : RowsA w v ls) (hb : Below w.heap.size w w') : RowsA w' v ls := by
  obtain ⟨ao, c, h1, h0, h2⟩ := h
  refine ⟨ao, c, h1, h0, fun i bs hi => ?_⟩
  obtain ⟨b, off, uo, k, uc, e1, e2, e3, e4, e5⟩ := h2 i bs hi
  exact ⟨b, off, uo, k, uc, e1, (hb.cell (World.block_lt_of_cell? _ _ e2)).trans e2, e3.keep hb, e4, e5⟩
section
variable {H : Type} {enc : TypeId × Value → H} {W : World} {fuel : Nat} {cs : List Value} {x : DataW H × List MemPlace}
set_option maxRecDepth 100000
set_option maxHeartbeats 1600000
theorem t_bytesA (h : DataW.trod enc Try.prog W 0 (fun _ => true) true fuel 38 cs = some x) (hw : ∀ n ∈ x.1.weights Try.prog 38, n ≤ reachBytes) : ∃ d : Dv, cs = [d.v] ∧ (∃ uo k uc, d.v = .slice uo k uc ∧ k ≤ uc) ∧ By W d.v d.s ∧ d.s.length ≤ reachBytes := by
  obtain ⟨d, h1, h2, h3⟩ := t_bytes h hw
  refine ⟨d, h1, ?_, h2, h3⟩
  rcases open_ints Try.underlying38 Try.underlying5 cells5 h with ⟨hcs, hx⟩ | ⟨a, len, cap, zs, hcs, _, hl, hm, hz, hx, hcell, hwz⟩
  · rw [hcs] at h1
    have e : Value.slice none 0 0 = d.v := by simpa [lits] using h1
    exact ⟨none, 0, 0, e.symm, Nat.le_refl _⟩
  · rw [hcs] at h1
    have e : Value.slice (some a) len cap = d.v := by simpa [lits] using h1
    exact ⟨some a, len, cap, e.symm, by omega⟩
theorem rows_of {ao : Option Addr} {N cap : Nat} {os : List Dv} (hl : os.length = N) (hcm : N ≤ cap ∧ cap ≤ maxLen) (hok : ∀ o ∈ os, (∃ uo k uc, o.v = .slice uo k uc ∧ k ≤ uc) ∧ By W o.v o.s ∧ o.s.length ≤ reachBytes) (hr : 0 < N → ∃ b off, ao = some ⟨b, off, none⟩ ∧ ∀ i o, os[i]? = some o → RowAt W b (off + i * 1) [o.v]) :
    RowsA W (.slice ao N cap) (os.map Dv.s) := by
  refine ⟨ao, cap, by rw [List.length_map, hl], by rw [List.length_map, hl]; have := hcm.1; have := hcm.2; unfold maxLen at this; omega, fun i bs hi => ?_⟩
  rw [List.getElem?_map] at hi
  cases ho : os[i]? with
  | none => rw [ho] at hi; cases hi
  | some o =>
    rw [ho] at hi
    cases hi
    have hlt := (List.getElem?_eq_some_iff.1 ho).1
    obtain ⟨b, off, e1, e2⟩ := hr (by omega)
    obtain ⟨⟨uo, k, uc, e3, e4⟩, e5, e6⟩ := hok o (List.mem_of_getElem? ho)
    refine ⟨b, off, uo, k, uc, e1, ?_, by rw [← e3]; exact e5, e4, by unfold reachBytes at e6; omega⟩
    have := e2 i o ho 0 o.v rfl
    rw [Nat.mul_one, Nat.add_zero, e3] at this
    exact this
end
end Go.Proofs.Ytjpdcahodmomgaa
