import Derived.Test.YtgajmiibkakobaaTh
import Derived.Test.YtgajmiibkakobaaDd
import Derived.Deep.Cut
import Derived.BigQuiet
namespace Go.Proofs.Ytgajmiibkakobaa
open Go.RowKit Go.PlainAid Go.MapKept
set_option linter.unusedVariables false
set_option linter.unusedSimpArgs false
/-- Is an effect allowed, that answers (er, va)? -/
def alB (R : Out) (er va : Int) : Bool := !(R.1.2 == 1) && (R.1.2 == er) && (R.1.1 == va)
/-- The counters behind it. -/
def alL (R : Out) (er va : Int) (n : List UInt8) (hb' : Nat) (L : List (List UInt8 × Ct)) : List (List UInt8 × Ct) := if alB R er va = true then doL R n hb' L else L
theorem alL_yes {R : Out} {er va : Int} {n : List UInt8} {hb' : Nat} {L : List (List UInt8 × Ct)} (h : alB R er va = true) : alL R er va n hb' L = doL R n hb' L := by unfold alL; rw [if_pos h]
theorem alL_no {R : Out} {er va : Int} {n : List UInt8} {hb' : Nat} {L : List (List UInt8 × Ct)} (h : alB R er va = false) : alL R er va n hb' L = L := by unfold alL; rw [if_neg (by rw [h]; decide)]
def alH (R : Out) (er va : Int) (w : World) (hb' : Nat) (L : List (List UInt8 × Ct)) : Prop := R.1.2 = 0 → alB R er va = true → (∃ p ∈ L, p.2.hb = some hb') ∨ w.heap.size ≤ hb'
set_option maxRecDepth 100000 in
set_option maxHeartbeats 3200000 in
theorem allows_any {ab mb : Nat} {L : List (List UInt8 × Ct)} (e0 e1 e2 k A B er va : Int) (n : List UInt8) (w : World) (h : AM ab mb L w) (hn : n.length ≤ 140737488355328) :
    Calls Try.prog 20 #[.pointer (some ⟨ab, 0, none⟩), .agg #[.int .i64 e0, .int .i64 e1, .int .i64 e2, .int .i64 k, .string ⟨n.toArray⟩, .int .i64 A, .int .i64 B, .int .i64 er, .int .i64 va]] w fun e w' => ∃ hb', e = .returned (.bool (alB (mapO k A B va n L) er va)) ∧ AM ab mb (alL (mapO k A B va n L) er va n hb' L) w' ∧ alH (mapO k A B va n L) er va w hb' L ∧ Chg (ownA mb L) w w' := by
  obtain ⟨ob, hob⟩ : ∃ b, b = w.heap.size := ⟨_, rfl⟩
  obtain ⟨X, hX⟩ : ∃ X, X = w.alloc (.cells #[.int .i64 e0, .int .i64 e1, .int .i64 e2, .int .i64 k, .string ⟨n.toArray⟩, .int .i64 A, .int .i64 B, .int .i64 er, .int .i64 va] 51) := ⟨_, rfl⟩
  have hbX : Below w.heap.size w X := by rw [hX]; exact (Below.refl _ _).alloc (Nat.le_refl _) _
  have Bob : Hid (Blk X ob #[.int .i64 e0, .int .i64 e1, .int .i64 e2, .int .i64 k, .string ⟨n.toArray⟩, .int .i64 A, .int .i64 B, .int .i64 er, .int .i64 va] 51) := show Blk X ob #[.int .i64 e0, .int .i64 e1, .int .i64 e2, .int .i64 k, .string ⟨n.toArray⟩, .int .i64 A, .int .i64 B, .int .i64 er, .int .i64 va] 51 from by rw [hX, hob]; exact heap_alloc_new w _
  have HBX : Hid (Below w.heap.size w X) := hbX
  have HAM : Hid (AM ab mb L X) := h.more hbX
  have HPL : Hid (Calls Try.prog 22 #[.pointer (some ⟨ab, 0, none⟩), .agg #[.int .i64 k, .string ⟨n.toArray⟩, .int .i64 A, .int .i64 B], .int .i64 va] X (PlPost (hbOf k n L) n (mapO k A B va n L) X)) := plan_any k A B va n X HAM.out hn
  have HOK : Hid (∀ hb', (mapO k A B va n L).1.2 = 0 → (Ct.mk n (mapO k A B va n L).2.1 (mapO k A B va n L).2.2.1 (mapO k A B va n L).2.2.2.1 (some hb') (mapO k A B va n L).2.2.2.2).Ok) := fun hb' h0 => mapO_ok (fun p hp => (h.ct p hp).2.1) k A B va n hb' h0
  have HH0 : Hid (∀ x, hbOf k n L = some x → ∃ c, (n, c) ∈ L ∧ c.hb = some x) := hbOf_in
  generalize mapO k A B va n L = R at *
  generalize hbOf k n L = hb0 at *
  have o3 : X.cell? ⟨ob, 3, none⟩ = some (.int .i64 k) := Bob.out.cell 3
  have o4 : X.cell? ⟨ob, 4, none⟩ = some (.string ⟨n.toArray⟩) := Bob.out.cell 4
  have o5 : X.cell? ⟨ob, 5, none⟩ = some (.int .i64 A) := Bob.out.cell 5
  have o6 : X.cell? ⟨ob, 6, none⟩ = some (.int .i64 B) := Bob.out.cell 6
  have o8 : X.cell? ⟨ob, 8, none⟩ = some (.int .i64 va) := Bob.out.cell 8
  clear h hn hbX
  go_enter Try.func20, Try.ntmps20
  go_upto_region 1 with fail
  rw [← hX, ← hob]
  clear hX hob
  go_wp2_with fail
  refine Calls.mono HPL.out ?_
  rintro e9 w1 ⟨fv, rfl, hone, hb1, hdo⟩
  have hst : ∀ (A : Addr) (m : Mode) (W : World), (store A fv m).run Try.prog W = stored Try.prog W A fv m := fun A m W => run_store _ _ _ _ _ hone
  obtain ⟨db, hdb⟩ : ∃ b, b = w1.heap.size := ⟨_, rfl⟩
  obtain ⟨V, hV⟩ : ∃ V, V = w1.alloc (.cells #[.int .i64 R.1.1, .int .i64 R.1.2, fv] 62) := ⟨_, rfl⟩
  have hbV : Below w1.heap.size w1 V := by rw [hV]; exact (Below.refl _ _).alloc (Nat.le_refl _) _
  have VD : Hid (Blk V db #[.int .i64 R.1.1, .int .i64 R.1.2, fv] 62) := show Blk V db #[.int .i64 R.1.1, .int .i64 R.1.2, fv] 62 from by rw [hV, hdb]; exact heap_alloc_new w1 _
  have HXV : Hid (Below X.heap.size X V) := hb1.trans (hbV.mono hb1.size)
  have VO : Hid (Blk V ob #[.int .i64 e0, .int .i64 e1, .int .i64 e2, .int .i64 k, .string ⟨n.toArray⟩, .int .i64 A, .int .i64 B, .int .i64 er, .int .i64 va] 51) := Bob.out.below HXV.out Bob.out.lt
  have HAV : Hid (AM ab mb L V) := HAM.out.more HXV.out
  have HB1 : Hid (Below X.heap.size X w1) := hb1
  have HBV : Hid (Below w1.heap.size w1 V) := hbV
  have HDO : Hid _ := hdo
  have HWV : Hid (Below w.heap.size w V) := HBX.out.trans (HXV.out.mono HBX.out.size)
  go_upto_region 2 with fail
  rw [← hV, ← hdb]
  clear hV hdb hbV hb1 hdo o3 o4 o5 o6 o8
  have v0 : V.cell? ⟨db, 0, none⟩ = some (.int .i64 R.1.1) := VD.out.cell 0
  have v1 : V.cell? ⟨db, 1, none⟩ = some (.int .i64 R.1.2) := VD.out.cell 1
  have v2 : V.cell? ⟨db, 2, none⟩ = some fv := VD.out.cell 2
  have v7 : V.cell? ⟨ob, 7, none⟩ = some (.int .i64 er) := VO.out.cell 7
  have v8 : V.cell? ⟨ob, 8, none⟩ = some (.int .i64 va) := VO.out.cell 8
  by_cases h1 : R.1.2 = 1
  · have q1 : (R.1.2 == 1) = true := by simpa using h1
    clear h1
    have HB : Hid (alB R er va = false) := show _ = _ from by unfold alB; rw [q1]; rfl
    go_wp2_with fail
    go_ret
    refine ⟨0, by rw [HB.out]; rfl, by rw [alL_no HB.out]; exact HAV.out, (fun _ h => by rw [HB.out] at h; cases h), Chg.ofBelow _ HWV.out⟩
  · have q1 : (R.1.2 == 1) = false := by simpa using h1
    by_cases h2 : R.1.2 = er
    · subst h2
      have q2 : (R.1.2 == R.1.2) = true := by simp
      by_cases h3 : R.1.1 = va
      · subst h3
        have q3 : (R.1.1 == R.1.1) = true := by simp
        have HB : Hid (alB R R.1.2 R.1.1 = true) := show _ = _ from by unfold alB; rw [q1, q2, q3]; rfl
        by_cases hr : R.1.2 = 0
        · have HR : Hid (R.1.2 = 0) := hr
          have HD : Hid (DoerAt X.heap.size w1.heap.size hb0 n R.2.1 R.2.2.1 R.2.2.2.1 R.2.2.2.2 fv V) := (HDO.out hr).at HBV.out (fun x hx => by obtain ⟨c, hc, hcb⟩ := HH0.out x hx; have := (HAM.out.lows).2.2 _ hc x hcb; have := HB1.out.size; omega)
          have HCA : Hid _ := carry_yes (lim := R.2.1) (val := R.2.2.1) (held := R.2.2.2.1) (H := R.2.2.2.2) R.1.1 fv V HAV.out HAM.out.lows HXV.out.size HD.out (fun hb' => HOK.out hb' hr) HH0.out
          rw [← hr] at HCA
          clear hr
          go_wp2_with fail
          refine Calls.mono HCA.out ?_
          rintro e9 w2 ⟨rfl, ⟨hb', hA, hh⟩, hc⟩
          have HFA : Hid (AM ab mb (doL R n hb' L) w2) := show AM ab mb (doL R n hb' L) w2 from by unfold doL; rw [if_pos HR.out]; exact hA
          have HFC : Hid (Chg (ownA mb L) w w2) := (Chg.ofBelow _ HWV.out).trans hc (fun j hj e => by rcases e with e | e | e; exact Or.inl e; (obtain ⟨c, hcm, hcb⟩ := HH0.out _ e; exact Or.inr ⟨_, hcm, hcb⟩); (have := HBX.out.size; omega))
          have HHB : Hid ((∃ p ∈ L, p.2.hb = some hb') ∨ w.heap.size ≤ hb') := show _ ∨ _ from hh.elim (fun e => by obtain ⟨c, hcm, hcb⟩ := HH0.out _ e; exact Or.inl ⟨_, hcm, hcb⟩) (fun e => Or.inr (by have := HWV.out.size; omega))
          clear hA hh hc v0 v1 v2 v7 v8
          first | go_end0 | skip
          go_wp2_with fail
          go_ret
          exact ⟨hb', by rw [HB.out]; rfl, by rw [alL_yes HB.out]; exact HFA.out, fun _ _ => HHB.out, HFC.out⟩
        · have HCA : Hid _ := carry_no (ab := ab) R fv V hr
          have HR : Hid (¬ R.1.2 = 0) := hr
          clear hr
          go_wp2_with fail
          refine Calls.mono HCA.out ?_
          rintro e9 w2 ⟨rfl, hb2⟩
          have HFA : Hid (AM ab mb (doL R n 0 L) w2) := show AM ab mb (doL R n 0 L) w2 from by unfold doL; rw [if_neg HR.out]; exact HAV.out.more hb2
          have HFC : Hid (Chg (ownA mb L) w w2) := Chg.ofBelow _ (HWV.out.trans (hb2.mono HWV.out.size))
          clear hb2 v0 v1 v2 v7 v8
          first | go_end0 | skip
          go_wp2_with fail
          go_ret
          exact ⟨0, by rw [HB.out]; rfl, by rw [alL_yes HB.out]; exact HFA.out, fun h => absurd h HR.out, HFC.out⟩
      · have q3 : (R.1.1 == va) = false := by simpa using h3
        have HB : Hid (alB R R.1.2 va = false) := show _ = _ from by unfold alB; rw [q1, q2, q3]; rfl
        go_wp2_with fail
        go_ret
        refine ⟨0, by rw [HB.out]; rfl, by rw [alL_no HB.out]; exact HAV.out, (fun _ h => by rw [HB.out] at h; cases h), Chg.ofBelow _ HWV.out⟩
    · have q2 : (R.1.2 == er) = false := by simpa using h2
      have HB : Hid (alB R er va = false) := show _ = _ from by unfold alB; rw [q1, q2]; rfl
      go_wp2_with fail
      go_ret
      refine ⟨0, by rw [HB.out]; rfl, by rw [alL_no HB.out]; exact HAV.out, (fun _ h => by rw [HB.out] at h; cases h), Chg.ofBelow _ HWV.out⟩
end Go.Proofs.Ytgajmiibkakobaa
