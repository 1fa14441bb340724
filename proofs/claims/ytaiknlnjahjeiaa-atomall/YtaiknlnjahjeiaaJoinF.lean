import Derived.Test.YtaiknlnjahjeiaaJoinD
import Derived.Deep.Cut
import Derived.BigQuiet
import Derived.Test.YtaiknlnjahjeiaaJoinA
import Derived.Laws.Externs
import Derived.Test.YtaiknlnjahjeiaaJoinE
namespace Go.Proofs.Ytaiknlnjahjeiaa
open Go.RowKit Go.PlainAid Go.MapKept
set_option linter.unusedVariables false
set_option linter.unusedSimpArgs false
/-- Is an effect allowed, that answers (er, va)? -/
def alB (R : Out) (er va : Int) : Bool := !(R.1.2 == 1) && (R.1.2 == er) && (R.1.1 == va)
/-- The counters behind it. -/
def alL (R : Out) (er va : Int) (n : List UInt8) (hb' : Nat) (L : List (List UInt8 × Ct)) : List (List UInt8 × Ct) := if alB R er va = true then doL R n hb' L else L
theorem alL_yes {R : Out} {er va : Int} {n : List UInt8} {hb' : Nat} {L : List (List UInt8 × Ct)} (h : alB R er va = true) : alL R er va n hb' L = doL R n hb' L := by unfold alL; rw [if_pos h]
theorem alL_no {R : Out} {er va : Int} {n : List UInt8} {hb' : Nat} {L : List (List UInt8 × Ct)} (h : alB R er va = false) : alL R er va n hb' L = L := by unfold alL; rw [if_neg (by rw [h]; decide)]
def alH (R : Out) (er va : Int) (w : World) (hb' : Nat) (L : List (List UInt8 × Ct)) : Prop := R.1.2 = 0 → alB R er va = true → (∃ p ∈ L, p.2.hb = some hb') ∨ w.heap.size ≤ hb'
set_option maxRecDepth 100000 in
set_option maxHeartbeats 3200000 in
theorem allows_any {ab mb : Nat} {L : List (List UInt8 × Ct)} (e0 e1 e2 k A B er va : Int) (n : List UInt8) (w : World) (h : AM ab mb L w) (hn : n.length ≤ 140737488355328) :
    Calls Try.prog 20 #[.pointer (some ⟨ab, 0, none⟩), .agg #[.int .i64 e0, .int .i64 e1, .int .i64 e2, .int .i64 k, .string ⟨n.toArray⟩, .int .i64 A, .int .i64 B, .int .i64 er, .int .i64 va]] w fun e w' => ∃ hb', e = .returned (.bool (alB (mapO k A B va n L) er va)) ∧ AM ab mb (alL (mapO k A B va n L) er va n hb' L) w' ∧ alH (mapO k A B va n L) er va w hb' L ∧ Chg (ownA mb L) w w' := by
  obtain ⟨ob, hob⟩ : ∃ b, b = w.heap.size := ⟨_, rfl⟩
  obtain ⟨X, hX⟩ : ∃ X, X = w.alloc (.cells #[.int .i64 e0, .int .i64 e1, .int .i64 e2, .int .i64 k, .string ⟨n.toArray⟩, .int .i64 A, .int .i64 B, .int .i64 er, .int .i64 va] 51) := ⟨_, rfl⟩
  have hbX : Below w.heap.size w X := by rw [hX]; exact (Below.refl _ _).alloc (Nat.le_refl _) _
  have Bob : Hid (Blk X ob #[.int .i64 e0, .int .i64 e1, .int .i64 e2, .int .i64 k, .string ⟨n.toArray⟩, .int .i64 A, .int .i64 B, .int .i64 er, .int .i64 va] 51) := show Blk X ob #[.int .i64 e0, .int .i64 e1, .int .i64 e2, .int .i64 k, .string ⟨n.toArray⟩, .int .i64 A, .int .i64 B, .int .i64 er, .int .i64 va] 51 from by rw [hX, hob]; exact heap_alloc_new w _
  have HBX : Hid (Below w.heap.size w X) := hbX
  have HAM : Hid (AM ab mb L X) := h.more hbX
  have HPL : Hid (Calls Try.prog 22 #[.pointer (some ⟨ab, 0, none⟩), .agg #[.int .i64 k, .string ⟨n.toArray⟩, .int .i64 A, .int .i64 B], .int .i64 va] X (PlPost (hbOf k n L) n (mapO k A B va n L) X)) := plan_any k A B va n X HAM.out hn
  have HOK : Hid (∀ hb', (mapO k A B va n L).1.2 = 0 → (Ct.mk n (mapO k A B va n L).2.1 (mapO k A B va n L).2.2.1 (mapO k A B va n L).2.2.2.1 (some hb') (mapO k A B va n L).2.2.2.2).Ok) := fun hb' h0 => mapO_ok (fun p hp => (h.ct p hp).2.1) k A B va n hb' h0
  have HH0 : Hid (∀ x, hbOf k n L = some x → ∃ c, (n, c) ∈ L ∧ c.hb = some x) := hbOf_in
  generalize mapO k A B va n L = R at *
  generalize hbOf k n L = hb0 at *
  have o3 : X.cell? ⟨ob, 3, none⟩ = some (.int .i64 k) := Bob.out.cell 3
  have o4 : X.cell? ⟨ob, 4, none⟩ = some (.string ⟨n.toArray⟩) := Bob.out.cell 4
  have o5 : X.cell? ⟨ob, 5, none⟩ = some (.int .i64 A) := Bob.out.cell 5
  have o6 : X.cell? ⟨ob, 6, none⟩ = some (.int .i64 B) := Bob.out.cell 6
  have o8 : X.cell? ⟨ob, 8, none⟩ = some (.int .i64 va) := Bob.out.cell 8
  clear h hn hbX
  go_enter Try.func20, Try.ntmps20
  go_upto_region 1 with fail
  rw [← hX, ← hob]
  clear hX hob
  go_wp2_with fail
  refine Calls.mono HPL.out ?_
  rintro e9 w1 ⟨fv, rfl, hone, hb1, hdo⟩
  have hst : ∀ (A : Addr) (m : Mode) (W : World), (store A fv m).run Try.prog W = stored Try.prog W A fv m := fun A m W => run_store _ _ _ _ _ hone
  obtain ⟨db, hdb⟩ : ∃ b, b = w1.heap.size := ⟨_, rfl⟩
  obtain ⟨V, hV⟩ : ∃ V, V = w1.alloc (.cells #[.int .i64 R.1.1, .int .i64 R.1.2, fv] 62) := ⟨_, rfl⟩
  have hbV : Below w1.heap.size w1 V := by rw [hV]; exact (Below.refl _ _).alloc (Nat.le_refl _) _
  have VD : Hid (Blk V db #[.int .i64 R.1.1, .int .i64 R.1.2, fv] 62) := show Blk V db #[.int .i64 R.1.1, .int .i64 R.1.2, fv] 62 from by rw [hV, hdb]; exact heap_alloc_new w1 _
  have HXV : Hid (Below X.heap.size X V) := hb1.trans (hbV.mono hb1.size)
  have VO : Hid (Blk V ob #[.int .i64 e0, .int .i64 e1, .int .i64 e2, .int .i64 k, .string ⟨n.toArray⟩, .int .i64 A, .int .i64 B, .int .i64 er, .int .i64 va] 51) := Bob.out.below HXV.out Bob.out.lt
  have HAV : Hid (AM ab mb L V) := HAM.out.more HXV.out
  have HB1 : Hid (Below X.heap.size X w1) := hb1
  have HBV : Hid (Below w1.heap.size w1 V) := hbV
  have HDO : Hid _ := hdo
  have HWV : Hid (Below w.heap.size w V) := HBX.out.trans (HXV.out.mono HBX.out.size)
  go_upto_region 2 with fail
  rw [← hV, ← hdb]
  clear hV hdb hbV hb1 hdo o3 o4 o5 o6 o8
  have v0 : V.cell? ⟨db, 0, none⟩ = some (.int .i64 R.1.1) := VD.out.cell 0
  have v1 : V.cell? ⟨db, 1, none⟩ = some (.int .i64 R.1.2) := VD.out.cell 1
  have v2 : V.cell? ⟨db, 2, none⟩ = some fv := VD.out.cell 2
  have v7 : V.cell? ⟨ob, 7, none⟩ = some (.int .i64 er) := VO.out.cell 7
  have v8 : V.cell? ⟨ob, 8, none⟩ = some (.int .i64 va) := VO.out.cell 8
  by_cases h1 : R.1.2 = 1
  · have q1 : (R.1.2 == 1) = true := by simpa using h1
    clear h1
    have HB : Hid (alB R er va = false) := show _ = _ from by unfold alB; rw [q1]; rfl
    go_wp2_with fail
    go_ret
    refine ⟨0, by rw [HB.out]; rfl, by rw [alL_no HB.out]; exact HAV.out, (fun _ h => by rw [HB.out] at h; cases h), Chg.ofBelow _ HWV.out⟩
  · have q1 : (R.1.2 == 1) = false := by simpa using h1
    by_cases h2 : R.1.2 = er
    · subst h2
      have q2 : (R.1.2 == R.1.2) = true := by simp
      by_cases h3 : R.1.1 = va
      · subst h3
        have q3 : (R.1.1 == R.1.1) = true := by simp
        have HB : Hid (alB R R.1.2 R.1.1 = true) := show _ = _ from by unfold alB; rw [q1, q2, q3]; rfl
        by_cases hr : R.1.2 = 0
        · have HR : Hid (R.1.2 = 0) := hr
          have HD : Hid (DoerAt X.heap.size w1.heap.size hb0 n R.2.1 R.2.2.1 R.2.2.2.1 R.2.2.2.2 fv V) := (HDO.out hr).at HBV.out (fun x hx => by obtain ⟨c, hc, hcb⟩ := HH0.out x hx; have := (HAM.out.lows).2.2 _ hc x hcb; have := HB1.out.size; omega)
          have HCA : Hid _ := carry_yes (lim := R.2.1) (val := R.2.2.1) (held := R.2.2.2.1) (H := R.2.2.2.2) R.1.1 fv V HAV.out HAM.out.lows HXV.out.size HD.out (fun hb' => HOK.out hb' hr) HH0.out
          rw [← hr] at HCA
          clear hr
          go_wp2_with fail
          refine Calls.mono HCA.out ?_
          rintro e9 w2 ⟨rfl, ⟨hb', hA, hh⟩, hc⟩
          have HFA : Hid (AM ab mb (doL R n hb' L) w2) := show AM ab mb (doL R n hb' L) w2 from by unfold doL; rw [if_pos HR.out]; exact hA
          have HFC : Hid (Chg (ownA mb L) w w2) := (Chg.ofBelow _ HWV.out).trans hc (fun j hj e => by rcases e with e | e | e; exact Or.inl e; (obtain ⟨c, hcm, hcb⟩ := HH0.out _ e; exact Or.inr ⟨_, hcm, hcb⟩); (have := HBX.out.size; omega))
          have HHB : Hid ((∃ p ∈ L, p.2.hb = some hb') ∨ w.heap.size ≤ hb') := show _ ∨ _ from hh.elim (fun e => by obtain ⟨c, hcm, hcb⟩ := HH0.out _ e; exact Or.inl ⟨_, hcm, hcb⟩) (fun e => Or.inr (by have := HWV.out.size; omega))
          clear hA hh hc v0 v1 v2 v7 v8
          first | go_end0 | skip
          go_wp2_with fail
          go_ret
          exact ⟨hb', by rw [HB.out]; rfl, by rw [alL_yes HB.out]; exact HFA.out, fun _ _ => HHB.out, HFC.out⟩
        · have HCA : Hid _ := carry_no (ab := ab) R fv V hr
          have HR : Hid (¬ R.1.2 = 0) := hr
          clear hr
          go_wp2_with fail
          refine Calls.mono HCA.out ?_
          rintro e9 w2 ⟨rfl, hb2⟩
          have HFA : Hid (AM ab mb (doL R n 0 L) w2) := show AM ab mb (doL R n 0 L) w2 from by unfold doL; rw [if_neg HR.out]; exact HAV.out.more hb2
          have HFC : Hid (Chg (ownA mb L) w w2) := Chg.ofBelow _ (HWV.out.trans (hb2.mono HWV.out.size))
          clear hb2 v0 v1 v2 v7 v8
          first | go_end0 | skip
          go_wp2_with fail
          go_ret
          exact ⟨0, by rw [HB.out]; rfl, by rw [alL_yes HB.out]; exact HFA.out, fun h => absurd h HR.out, HFC.out⟩
      · have q3 : (R.1.1 == va) = false := by simpa using h3
        have HB : Hid (alB R R.1.2 va = false) := show _ = _ from by unfold alB; rw [q1, q2, q3]; rfl
        go_wp2_with fail
        go_ret
        refine ⟨0, by rw [HB.out]; rfl, by rw [alL_no HB.out]; exact HAV.out, (fun _ h => by rw [HB.out] at h; cases h), Chg.ofBelow _ HWV.out⟩
    · have q2 : (R.1.2 == er) = false := by simpa using h2
      have HB : Hid (alB R er va = false) := show _ = _ from by unfold alB; rw [q1, q2]; rfl
      go_wp2_with fail
      go_ret
      refine ⟨0, by rw [HB.out]; rfl, by rw [alL_no HB.out]; exact HAV.out, (fun _ h => by rw [HB.out] at h; cases h), Chg.ofBelow _ HWV.out⟩
end Go.Proofs.Ytaiknlnjahjeiaa
namespace Go.Proofs.Ytaiknlnjahjeiaa
open Go.RowKit Go.PlainAid Go.MapKept
set_option linter.unusedVariables false
set_option linter.unusedSimpArgs false
/-- A map of holds held against nil. -/
theorem eqNil0 (d : Nat) (w : World) (p : Option Nat) : (Op.equalIn (d + 1) 65 (.map p) (.map none)).run Try.prog w = .ok p.isNone w := by
  cases p <;> simp [Op.equalIn, run_underlying Try.underlying65]
theorem eqNil (w : World) (p : Option Nat) : (binOp .eql 65 (.map p) (.map none)).run Try.prog w = .ok (.bool p.isNone) w := by
  simp only [binOp]
  simp [show Op.equal 65 (.map p) (.map none) = Op.equalIn (9999 + 1) 65 (.map p) (.map none) from rfl, eqNil0 9999 w p]
/-- What was put into an interface as a map of holds comes out of it. -/
theorem outOf (w : World) (v : Value) : (Instr.typeAssert (.iface 65 v) 20 65 false).run Try.prog w = .ok v w := by
  simp [Instr.typeAssert, run_underlying Try.underlying65, go_sem, Result.andThen]
/-- maps.clone lays a new block. -/
theorem rawClone {r : Nat} {es : Array MapEntry} {clock : Nat} (w : World) (hb : w.heap[r]? = some (.map es clock)) :
    (Extern.MapsClone.clone #[.iface 65 (.map (some r))]).run Try.prog w = .ok (.iface 65 (.map (some w.heap.size))) (w.alloc (.map es clock)) := by
  show (getObj r >>= _).run Try.prog w = _
  simp [MapKept.run_getObj_map hb, Result.andThen, go_sem]
set_option maxRecDepth 100000 in
theorem mclone_nil (w : World) : Calls Try.prog 24 #[.map none] w fun e w' => e = .returned (.map none) ∧ w' = w := by
  have hq := fun w => eqNil w none
  go_enter Try.func24, Try.ntmps24
  go_wp2_with fail
  go_ret
  exact ⟨rfl, rfl⟩
set_option maxRecDepth 100000 in
theorem mclone_raw (b : Nat) (es : Array MapEntry) (clock : Nat) (w : World) (hb : w.heap[b]? = some (.map es clock)) :
    Calls Try.prog 24 #[.map (some b)] w fun e w' => e = .returned (.map (some w.heap.size)) ∧ w' = w.alloc (.map es clock) := by
  have hq := fun w => eqNil w (some b)
  go_enter Try.func24, Try.ntmps24
  go_wp2_with fail
  rw [run_callFunc_extern Try.func34 (by kernel_rfl) (by kernel_rfl) (by kernel_rfl) (e := Extern.MapsClone.clone) (by kernel_rfl), rawClone w hb]
  simp only [Result.andThen]
  rw [Oper.upon_value]
  go_wp2_with fail
  rw [outOf]
  simp only [Result.andThen]
  rw [Oper.upon_value]
  go_wp2_with fail
  go_ret
  exact ⟨rfl, rfl⟩
/-- The clone of a map of holds is another one with the same holds. -/
theorem mclone_any {b : Nat} {H : List (Int × Int)} (w : World) (h : HI w b H) :
    Calls Try.prog 24 #[.map (some b)] w fun e w' => e = .returned (.map (some w.heap.size)) ∧ HI w' w.heap.size H ∧ Below w.heap.size w w' := by
  obtain ⟨es, clock, hb, hs, hm⟩ := h
  refine Calls.mono (mclone_raw b es clock w hb) ?_
  rintro e w' ⟨rfl, rfl⟩
  exact ⟨rfl, ⟨es, clock, heap_alloc_new w _, hs, hm⟩, (Below.refl _ _).alloc (Nat.le_refl _) _⟩
end Go.Proofs.Ytaiknlnjahjeiaa
namespace Go.Proofs.Ytaiknlnjahjeiaa
open Go.RowKit Go.PlainAid Go.MapKept
set_option linter.unusedVariables false
set_option linter.unusedSimpArgs false
/-- A counter, whatever block its holds lie in. -/
def Ct.dat (c : Ct) : List UInt8 × Int × Int × Int × List (Int × Int) := (c.nm, c.lim, c.val, c.held, c.H)
/-- Two maps that tell the same. -/
def Eqv (L M : List (List UInt8 × Ct)) : Prop := ∀ n, (Gm.look n L).map Ct.dat = (Gm.look n M).map Ct.dat
theorem Eqv.symm {L M : List (List UInt8 × Ct)} (h : Eqv L M) : Eqv M L := fun n => (h n).symm
theorem Eqv.trans {L M N : List (List UInt8 × Ct)} (h : Eqv L M) (k : Eqv M N) : Eqv L N := fun n => (h n).trans (k n)
theorem ctO_dat {c d : Ct} (h : c.dat = d.dat) (k A B q : Int) : ctO k A B q c = ctO k A B q d := by
  obtain ⟨n1, l1, v1, h1, b1, H1⟩ := c
  obtain ⟨n2, l2, v2, h2, b2, H2⟩ := d
  simp only [Ct.dat, Prod.mk.injEq] at h
  obtain ⟨rfl, rfl, rfl, rfl, rfl⟩ := h
  rfl
theorem Eqv.mapO {L M : List (List UInt8 × Ct)} (h : Eqv L M) (k A B q : Int) (n : List UInt8) : mapO k A B q n L = mapO k A B q n M := by
  have hn := h n
  unfold Go.Proofs.Ytaiknlnjahjeiaa.mapO
  cases h1 : Gm.look n L with
  | none =>
    rw [h1] at hn
    cases h2 : Gm.look n M with
    | none => rfl
    | some d => rw [h2] at hn; cases hn
  | some c =>
    rw [h1] at hn
    cases h2 : Gm.look n M with
    | none => rw [h2] at hn; cases hn
    | some d =>
      rw [h2] at hn
      have hd : c.dat = d.dat := Option.some.inj hn
      simp only [ctO_dat hd]
theorem Eqv.doL {L M : List (List UInt8 × Ct)} (h : Eqv L M) (R : Out) (n : List UInt8) (x y : Nat) : Eqv (doL R n x L) (doL R n y M) := by
  unfold Go.Proofs.Ytaiknlnjahjeiaa.doL
  by_cases hr : R.1.2 = 0
  · rw [if_pos hr, if_pos hr]
    intro m
    rw [look_put, look_put]
    by_cases hm : m = n
    · rw [if_pos hm, if_pos hm]; rfl
    · rw [if_neg hm, if_neg hm]; exact h m
  · rw [if_neg hr, if_neg hr]; exact h
theorem Eqv.lk {L M : List (List UInt8 × Ct)} (h : Eqv L M) (n : List UInt8) : lkOf L n = lkOf M n := by
  have hn := h n
  cases h1 : Gm.look n L with
  | none =>
    rw [h1] at hn
    cases h2 : Gm.look n M with
    | none => rw [lk_none h1, lk_none h2]
    | some d => rw [h2] at hn; cases hn
  | some c =>
    rw [h1] at hn
    cases h2 : Gm.look n M with
    | none => rw [h2] at hn; cases hn
    | some d =>
      rw [h2] at hn
      have hd : c.dat = d.dat := Option.some.inj hn
      rw [lk_some h1, lk_some h2]
      obtain ⟨n1, l1, v1, h1, b1, H1⟩ := c
      obtain ⟨n2, l2, v2, h2, b2, H2⟩ := d
      simp only [Ct.dat, Prod.mk.injEq] at hd
      obtain ⟨rfl, rfl, rfl, rfl, rfl⟩ := hd
      rfl
theorem look_iff {K V : Type} [DecidableEq K] {k : K} {v : V} : ∀ {L : List (K × V)}, L.Pairwise (fun p q => p.1 ≠ q.1) → (Gm.look k L = some v ↔ (k, v) ∈ L)
  | [], _ => by simp [Gm.look]
  | x :: t, h => by
    obtain ⟨h1, h2⟩ := List.pairwise_cons.1 h
    rw [Gm.look_cons]
    by_cases e : k = x.1
    · rw [if_pos e]
      constructor
      · intro h
        have : x.2 = v := Option.some.inj h
        rw [e, ← this]
        exact List.mem_cons_self ..
      · intro h
        rcases List.mem_cons.1 h with h | h
        · rw [← h]
        · exact absurd e.symm (h1 _ h)
    · rw [if_neg e, look_iff h2]
      constructor
      · exact fun h => List.mem_cons_of_mem _ h
      · intro h
        rcases List.mem_cons.1 h with h | h
        · exact absurd (by rw [← h]) e
        · exact h
theorem look_perm {K V : Type} [DecidableEq K] {L M : List (K × V)} (hp : L.Perm M) (hk : L.Pairwise (fun p q => p.1 ≠ q.1)) (k : K) : Gm.look k L = Gm.look k M := by
  have hk2 : M.Pairwise (fun p q => p.1 ≠ q.1) := hp.pairwise hk (fun h => h.symm)
  apply Option.ext
  intro v
  rw [look_iff hk, look_iff hk2]
  exact hp.mem_iff
/-- One list of counters is another one but for where their holds lie. -/
def Cps (D E : List (List UInt8 × Ct)) : Prop := E.map (fun p => (p.1, p.2.dat)) = D.map (fun p => (p.1, p.2.dat))
theorem Cps.look : ∀ {D E : List (List UInt8 × Ct)}, Cps D E → Eqv D E
  | [], [], _ => fun n => rfl
  | [], _ :: _, h => by simp [Cps] at h
  | _ :: _, [], h => by simp [Cps] at h
  | x :: D, y :: E, h => fun n => by
    simp only [Cps, List.map_cons, List.cons.injEq, Prod.mk.injEq] at h
    obtain ⟨⟨h1, h2⟩, h3⟩ := h
    have ih := Cps.look (D := D) (E := E) h3 n
    rw [Gm.look_cons, Gm.look_cons, h1]
    by_cases e : n = x.1
    · rw [if_pos e, if_pos e, Option.map_some, Option.map_some, h2]
    · rw [if_neg e, if_neg e]; exact ih
theorem Cps.app {D E : List (List UInt8 × Ct)} (h : Cps D E) {n : List UInt8} {c d : Ct} (hd : c.dat = d.dat) : Cps (D ++ [(n, c)]) (E ++ [(n, d)]) := by
  unfold Cps at h ⊢
  rw [List.map_append, List.map_append, h]
  simp [hd]
theorem Cps.keys {D E : List (List UInt8 × Ct)} (h : Cps D E) : E.map (·.1) = D.map (·.1) := by
  have := congrArg (List.map Prod.fst) h
  simpa [List.map_map, Function.comp_def] using this
theorem putM_new {K V : Type} [DecidableEq K] {k : K} {v : V} : ∀ {L : List (K × V)}, (∀ p ∈ L, k ≠ p.1) → Gm.putM k v L = L ++ [(k, v)]
  | [], _ => rfl
  | x :: t, h => by
    rw [Gm.putM, if_neg (h x (List.mem_cons_self ..)), putM_new (fun p hp => h p (List.mem_cons_of_mem _ hp))]
    rfl
/-- An op asked again with its answer as its number comes to the same. -/
theorem ctO_again (k A B q : Int) (c : Ct) : ctO k A B (ctO k A B q c).1.1 c = ctO k A B q c := by
  unfold ctO
  by_cases c4 : k = 4
  · subst c4
    simp only [show ¬ (4 : Int) = 2 from by decide, show ¬ (4 : Int) = 3 from by decide, if_false, if_true]
    unfold holdO
    by_cases h1 : c.val < A
    · simp only [if_pos h1]
    · simp only [if_neg h1]
      by_cases h2 : q < 1 ∨ (Gm.look q c.H).isSome = true
      · simp only [if_pos h2, if_pos (show ((0 : Int) < 1 ∨ (Gm.look 0 c.H).isSome = true) from Or.inl (by decide))]
      · simp only [if_neg h2]
  · simp only [if_neg c4]
theorem mapO_again (k A B q : Int) (n : List UInt8) (L : List (List UInt8 × Ct)) : mapO k A B (mapO k A B q n L).1.1 n L = mapO k A B q n L := by
  unfold Go.Proofs.Ytaiknlnjahjeiaa.mapO
  by_cases hr : (nameB n && opB k A B) = false
  · rw [if_pos hr, if_pos hr]
  · rw [if_neg hr, if_neg hr]
    cases hl : Gm.look n L with
    | none => rfl
    | some c =>
      simp only
      by_cases hk : k = 1
      · rw [if_pos hk, if_pos hk]
      · rw [if_neg hk, if_neg hk]
        exact ctO_again k A B q c
theorem mapO_num {k : Int} (h : k ≠ 4) (A B q q2 : Int) (n : List UInt8) (L : List (List UInt8 × Ct)) : mapO k A B q n L = mapO k A B q2 n L := by
  unfold mapO ctO
  simp only [if_neg h]
end Go.Proofs.Ytaiknlnjahjeiaa
