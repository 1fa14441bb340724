import Derived.Test.YtnphkmdanicemaaGreatDoorVRe
import Derived.Test.YtnphkmdanicemaaGreatDoorJN
namespace Go.Proofs.YtnphkmdanicemaaGreatDoor
open Go.RowKit Go.PlainAid Go.MapKept
set_option linter.unusedVariables false
set_option linter.unusedSimpArgs false
def rfresh (r : Int) (A es : List Ent) : Nat := es.countP fun e => (lastD r e.n A).v == 0
theorem rfresh_step {r : Int} {A es : List Ent} {q : Nat} {e : Ent} (h : es[q]? = some e) : rfresh r A (es.take (q + 1)) = rfresh r A (es.take q) + if (lastD r e.n A).v = 0 then 1 else 0 := by
  rw [take_snoc h]
  simp [rfresh, List.countP_cons]
theorem rfresh_le (r : Int) (A es : List Ent) : rfresh r A es ≤ es.length := List.countP_le_length
def rtakeStep (r : Int) (acc : List Ent × Nat) (e : Ent) : List Ent × Nat := if (lastD r e.n acc.1).v < e.v then (acc.1 ++ [{ e with r := r }], acc.2 + 1) else acc
def rtakeF (r : Int) (A es : List Ent) : List Ent × Nat := es.foldl (rtakeStep r) (A, 0)
theorem rtakeF_more {r : Int} {A es : List Ent} {q : Nat} {e : Ent} (h : es[q]? = some e) : rtakeF r A (es.take (q + 1)) = rtakeStep r (rtakeF r A (es.take q)) e := by
  unfold rtakeF
  rw [take_snoc h, List.foldl_append]
  rfl
theorem rtakeF_le (r : Int) (A : List Ent) : ∀ (q : Nat) (es : List Ent), (rtakeF r A (es.take q)).2 ≤ q ∧ (rtakeF r A (es.take q)).1.length ≤ A.length + q
  | 0, es => by simp [rtakeF]
  | q + 1, es => by
    have ih := rtakeF_le r A q es
    cases h : es[q]? with
    | none =>
      rw [List.take_add_one, h]
      simp only [Option.toList_none, List.append_nil]
      omega
    | some e =>
      rw [rtakeF_more h]
      unfold rtakeStep
      split
      · simp; omega
      · omega
def rtakeCode (me n r : Int) (A es : List Ent) : Int := if r < 0 ∨ n ≤ r ∨ r = me then 3 else if 64 < es.length then 2 else if dgB es = false then 1 else if 64 < (nmsL r A).length + rfresh r A es then 102 else 0
def rtakeNext (me n r : Int) (A es : List Ent) : List Ent × Nat := if rtakeCode me n r A es = 0 then rtakeF r A es else (A, 0)
theorem VAt.re {w : World} {b o : Nat} {e : Ent} (h : VAt w b o e) (r : Int) : VAt w b o { e with r := r } := ⟨h.c0, h.c1, h.c2, h.c3, h.c4, h.c5, h.c6⟩
/-- The document's views within a call that began with v0 at w. -/
structure RStep (L rb : Nat) (me N : Int) (v0 v : Value) (A : List Ent) (w wr : World) : Prop where
  vw : RVw L rb me N v A wr
  chg : Chg (fun k => k = rb ∨ v0.ownBlock = some k) w wr
  at' : ∀ g, v.ownBlock = some g → v0.ownBlock = some g ∨ w.heap.size ≤ g
theorem RStep.more {L rb : Nat} {me N : Int} {v0 v : Value} {A : List Ent} {w wr w2 : World} (h : RStep L rb me N v0 v A w wr) (hb : Below wr.heap.size wr w2) : RStep L rb me N v0 v A w w2 := ⟨h.vw.more hb, h.chg.trans (Chg.ofBelow (fun _ => False) hb) (fun _ _ e => e.elim), h.at'⟩
theorem RStep.next {L rb : Nat} {me N : Int} {v0 v v' : Value} {A A' : List Ent} {w wr w2 : World} (h : RStep L rb me N v0 v A w wr) (hV : RVw L rb me N v' A' w2) (hc : Chg (fun k => k = rb ∨ v.ownBlock = some k) wr w2) (ha : ∀ g, v'.ownBlock = some g → v.ownBlock = some g ∨ wr.heap.size ≤ g) : RStep L rb me N v0 v' A' w w2 := by
  refine ⟨hV, h.chg.trans hc (fun j hj hb => ?_), fun g hg => ?_⟩
  · rcases hb with hb | hb
    · exact Or.inl hb
    · rcases h.at' j hb with h1 | h1
      · exact Or.inr h1
      · omega
  · rcases ha g hg with h1 | h1
    · exact h.at' g h1
    · exact Or.inr (Nat.le_trans h.chg.size h1)
theorem RStep.post {L rb : Nat} {me N : Int} {v0 v : Value} {A : List Ent} {w wr : World} (h : RStep L rb me N v0 v A w wr) : RPost L rb me N v0 A w wr := ⟨⟨v, h.vw, h.at'⟩, h.chg⟩
theorem RStep.from {L rb : Nat} {me N : Int} {v0 v : Value} {A es : List Ent} {w wr : World} (h : RStep L rb me N v0 v A w wr) {lb lo : Nat} (hlt : lb < w.heap.size) (h1 : lb ≠ rb) (h2 : v0.ownBlock ≠ some lb) {i : Nat} {e : Ent} (he : VAt w lb (lo + i * 7) e) : VAt wr lb (lo + i * 7) e := he.keep (h.chg.block lb hlt (fun hh => hh.elim h1 h2))
set_option maxRecDepth 100000 in
set_option maxHeartbeats 6400000 in
theorem rtake_any {L rb : Nat} {me N : Int} {v0 : Value} {A0 : List Ent} (r : Int) (la : Option Addr) (KK lcap : Nat) (es : List Ent) (w : World) (hV : RVw L rb me N v0 A0 w) (hA : A0.length ≤ 90000) (hl : es.length = KK) (hK : KK ≤ maxLen) (hf : FromV w la es) (hs : ∀ e ∈ es, e.sane) (hfm : 0 < KK → ∀ b off, la = some ⟨b, off, none⟩ → b ≠ rb ∧ v0.ownBlock ≠ some b) :
    Calls Tryz.prog 62 #[.pointer (some ⟨rb, 0, none⟩), .int .i64 r, .slice la KK lcap] w fun q w' => q = .returned (.tuple #[.int .i64 ((rtakeNext me N r A0 es).2 : Nat), .int .i64 (rtakeCode me N r A0 es)]) ∧ RPost L rb me N v0 (rtakeNext me N r A0 es).1 w w' := by
  have k0 := hV.c0
  have k1 := hV.c1
  have hmax : KK ≤ 9223372036854775807 := by unfold maxLen at hK; omega
  have HL : Hid (es.length = KK) := hl
  have HF : Hid (FromV w la es) := hf
  have HS : Hid (∀ e ∈ es, e.sane) := hs
  have HV : Hid (RVw L rb me N v0 A0 w) := hV
  have HFM : Hid (0 < KK → ∀ b off, la = some ⟨b, off, none⟩ → b ≠ rb ∧ v0.ownBlock ≠ some b) := hfm
  have HC0 : Hid (rtakeCode me N r A0 es = if r < 0 ∨ N ≤ r ∨ r = me then 3 else if 64 < KK then 2 else if dgB es = false then 1 else if 64 < (nmsL r A0).length + rfresh r A0 es then 102 else 0) := show _ = _ from by rw [← hl]; rfl
  have HN0 : Hid (rtakeNext me N r A0 es = if rtakeCode me N r A0 es = 0 then rtakeF r A0 es else (A0, 0)) := rfl
  generalize rtakeCode me N r A0 es = CD at *
  generalize rtakeNext me N r A0 es = NX at *
  have HST : Hid (∀ W, Below w.heap.size w W → RPost L rb me N v0 A0 w W) := fun W hb => RPost.stay hV hb
  clear hV hf hs hfm hl hK
  by_cases c1 : r < 0
  · have HCD : Hid (CD = 3) := show _ = _ from by rw [HC0.out, if_pos (Or.inl c1)]
    have HNX : Hid (NX = (A0, 0)) := show _ = _ from by rw [HN0.out, HCD.out]; rfl
    clear HC0 HN0
    go_enter Tryz.func62, Tryz.ntmps62
    go_wp2_with fail
    go_ret2
    exact ⟨by rw [HCD.out, HNX.out]; rfl, by rw [HNX.out]; exact HST.out _ (Below.refl _ _)⟩
  by_cases c2 : N ≤ r
  · have HCD : Hid (CD = 3) := show _ = _ from by rw [HC0.out, if_pos (Or.inr (Or.inl c2))]
    have HNX : Hid (NX = (A0, 0)) := show _ = _ from by rw [HN0.out, HCD.out]; rfl
    clear HC0 HN0
    go_enter Tryz.func62, Tryz.ntmps62
    go_wp2_with fail
    go_ret2
    exact ⟨by rw [HCD.out, HNX.out]; rfl, by rw [HNX.out]; exact HST.out _ (Below.refl _ _)⟩
  by_cases c3 : r = me
  · have HCD : Hid (CD = 3) := show _ = _ from by rw [HC0.out, if_pos (Or.inr (Or.inr c3))]
    have HNX : Hid (NX = (A0, 0)) := show _ = _ from by rw [HN0.out, HCD.out]; rfl
    have c3b : (r == me) = true := by simpa using c3
    clear HC0 HN0 c3
    go_enter Tryz.func62, Tryz.ntmps62
    go_wp2_with fail
    go_ret2
    exact ⟨by rw [HCD.out, HNX.out]; rfl, by rw [HNX.out]; exact HST.out _ (Below.refl _ _)⟩
  have c3b : (r == me) = false := by simpa using c3
  have hno : ¬ (r < 0 ∨ N ≤ r ∨ r = me) := fun h => h.elim c1 (fun h => h.elim c2 c3)
  rw [if_neg hno] at HC0
  clear c3 hno
  by_cases c4 : 64 < KK
  · have HCD : Hid (CD = 2) := show _ = _ from by rw [HC0.out, if_pos c4]
    have HNX : Hid (NX = (A0, 0)) := show _ = _ from by rw [HN0.out, HCD.out]; rfl
    clear HC0 HN0
    go_enter Tryz.func62, Tryz.ntmps62
    go_wp2_with fail
    go_ret2
    exact ⟨by rw [HCD.out, HNX.out]; rfl, by rw [HNX.out]; exact HST.out _ (Below.refl _ _)⟩
  rw [if_neg c4] at HC0
  go_enter Tryz.func62, Tryz.ntmps62
  go_wp2_with fail
  go_loopw [8, 9] (fun f i wr => ∃ q : Nat, q ≤ KK ∧ i = .int .i64 q ∧ f = .int .i64 (rfresh r A0 (es.take q) : Nat) ∧ Dig (es.take q) ∧ Below w.heap.size w wr) (fun _ i _ => KK - (intOf i).toNat)
  case atStart => exact ⟨0, Nat.zero_le _, rfl, rfl, ⟨by simp, by simp⟩, Below.refl _ _⟩
  case round =>
    obtain ⟨q, hq, rfl, rfl, hpre, hbel⟩ := hrel
    have hfl : rfresh r A0 (es.take q) ≤ 64 := Nat.le_trans (rfresh_le _ _ _) (by rw [List.length_take]; omega)
    by_cases hlt : q < KK
    · have HP : Hid (Dig (es.take q)) := hpre
      obtain ⟨e, he⟩ : ∃ e, es[q]? = some e := ⟨es[q]'(by rw [HL.out]; exact hlt), List.getElem?_eq_getElem _⟩
      have hse := HS.out e (List.mem_of_getElem? he)
      obtain ⟨b, off, hla, hc⟩ := HF.out (by rw [HL.out]; omega)
      subst hla
      have hbs : b < w.heap.size := (hc q e he).lt
      have HFS : Hid (rfresh r A0 (es.take (q + 1)) = rfresh r A0 (es.take q) + if (lastD r e.n A0).v = 0 then 1 else 0) := rfresh_step he
      generalize rfresh r A0 (es.take q) = fr at *
      have HVQ : Hid (∀ W, Below w.heap.size w W → VAt W b (off + q * 7) e) := fun W hb => (hc q e he).keep (hb.block b hbs)
      have HPR : Hid (∀ W, Below w.heap.size w W → ∀ p, 0 < q → es[q - 1]? = some p → W.cell? ⟨b, off + (q - 1) * 7, none⟩ = some (.string ⟨p.n.toArray⟩)) := fun W hb p _ hp => ((hc (q - 1) p hp).keep (hb.block b hbs)).c0
      have HE : Hid (es[q]? = some e) := he
      have HB : Hid (Below w.heap.size w wr) := hbel
      have HRA : Hid (∀ W, Calls Tryz.prog 77 #[viewV e] W fun r w' => r = .returned (.bool e.right) ∧ Below W.heap.size W w') := fun W => rright_any e W hse
      unfold viewV at HRA
      obtain ⟨d0, d1, d2, d3, d4, d5, d6⟩ := HVQ.out wr hbel
      clear he hc hpre hbel hse hbs
      go_wp2_with fail
      refine Calls.mono (HRA.out wr) ?_
      rintro e9 W ⟨rfl, hbW⟩
      have HBW : Hid (Below w.heap.size w W) := HB.out.trans (hbW.mono HB.out.size)
      have HVW : Hid (VAt W b (off + q * 7) e) := HVQ.out W HBW.out
      clear hbW HRA HB d0 d1 d2 d3 d4 d5 d6
      have HREST : Hid (∀ q9 : Nat, True) := fun _ => trivial
      by_cases hrt : e.right = true
      · rw [hrt]
        by_cases hq0 : 0 < q
        · obtain ⟨p, hp⟩ : ∃ p, es[q - 1]? = some p := ⟨es[q - 1]'(by rw [HL.out]; omega), List.getElem?_eq_getElem _⟩
          have HPC := HPR.out W HBW.out p hq0 hp
          have hq1 : q - 1 < KK := by omega
          have hqw : IntKind.i64.wrap ((q : Int) - 1) = ((q - 1 : Nat) : Int) := by rw [IntKind.wrap_i64]; omega
          have HPP : Hid (es[q - 1]? = some p) := hp
          have HRT : Hid (e.right = true) := hrt
          clear hp hrt
          cases hnl : nlt p.n e.n with
          | true =>
            have HLE : (Op.bytesLess e.n p.n || e.n == p.n) = false := by
              have := nlt_tri p.n e.n
              rw [hnl] at this
              simpa [nlt] using this.symm
            have HN : Hid (Dig (es.take (q + 1))) := dig_more HP.out HE.out HRT.out (fun p' _ hp' => by rw [HPP.out] at hp'; cases hp'; exact hnl)
            clear hnl
            go_wp2_with fail
            rename_i K hK
            try rw [show ∀ a : Act, a.put none undef = a from fun _ => rfl]
            refine wp_region_mix (fun wq => wq = ({ W with drawn := W.drawn + 1 } : World)) (fun i => i == 99) 99 (by kernel_rfl) rfl (by kernel_rfl) (by kernel_rfl) (by kernel_rfl) ?_
            refine withFrP (N := 123) rfl ?_
            intro f0 F0 hff
            have e2 : f0 2 = Value.slice (some ⟨b, off, none⟩) KK lcap := hff 2
            have e9 : f0 9 = Value.int .i64 (q : Int) := hff 9
            have e10 : f0 10 = Value.bool true := hff 10
            clear hff
            have HCC : (fun wq => wq = ({ W with drawn := W.drawn + 1 } : World)) (({ W with drawn := W.drawn + 1 } : World)) := rfl
            refine lyp F0 rfl HCC rfl (by omega) (wanted_none rfl) (v := Value.bool true) (fun wr hwr => by simp only [execOp, (F0.eval 10 (by omega)).trans (show _ = Value.bool true from by simp [upd, e2, e9, e10])]; first | rfl | simp [go_sem]) fun F1 => ?_
            refine lyp F1 rfl HCC rfl (by omega) (wanted_none rfl) (v := Value.bool false) (fun wr hwr => by simp only [execOp, (F1.eval 45 (by omega)).trans (show _ = Value.bool true from by simp [upd, e2, e9, e10])]; simp [go_sem, Act.eval]) fun F2 => ?_
            refine lyp F2 rfl HCC rfl (by omega) (wanted_none rfl) (v := Value.bool false) (fun wr hwr => by simp only [execOp, (F2.eval 46 (by omega)).trans (show _ = Value.bool false from by simp [upd, e2, e9, e10])]; first | rfl | simp [go_sem]) fun F3 => ?_
            refine lyp F3 rfl HCC rfl (by omega) (want_yes F3 rfl (e := 47) rfl (by omega) (show _ = Value.bool false from by simp [upd, e2, e9, e10])) (v := Value.int .i64 (q : Int)) (fun wr hwr => by simp only [execOp, (F3.eval 9 (by omega)).trans (show _ = Value.int .i64 (q : Int) from by simp [upd, e2, e9, e10])]; first | rfl | simp [go_sem]) fun F4 => ?_
            refine lyp F4 rfl HCC rfl (by omega) (want_yes F4 rfl (e := 47) rfl (by omega) (show _ = Value.bool false from by simp [upd, e2, e9, e10])) (v := Value.bool true) (fun wr hwr => by simp only [execOp, (F4.eval 48 (by omega)).trans (show _ = Value.int .i64 (q : Int) from by simp [upd, e2, e9, e10])]; simp [go_sem, Act.eval, hq0]) fun F5 => ?_
            refine lyp F5 rfl HCC rfl (by omega) (want_yes F5 rfl (e := 47) rfl (by omega) (show _ = Value.bool false from by simp [upd, e2, e9, e10])) (v := Value.bool true) (fun wr hwr => by simp only [execOp, (F5.eval 49 (by omega)).trans (show _ = Value.bool true from by simp [upd, e2, e9, e10])]; first | rfl | simp [go_sem]) fun F6 => ?_
            refine lyp F6 rfl HCC rfl (by omega) (want_yes F6 rfl (e := 50) rfl (by omega) (show _ = Value.bool true from by simp [upd, e2, e9, e10])) (v := Value.slice (some ⟨b, off, none⟩) KK lcap) (fun wr hwr => by simp only [execOp, (F6.eval 2 (by omega)).trans (show _ = Value.slice (some ⟨b, off, none⟩) KK lcap from by simp [upd, e2, e9, e10])]; first | rfl | simp [go_sem]) fun F7 => ?_
            refine lyp F7 rfl HCC rfl (by omega) (want_yes F7 rfl (e := 50) rfl (by omega) (show _ = Value.bool true from by simp [upd, e2, e9, e10])) (v := Value.int .i64 (q : Int)) (fun wr hwr => by simp only [execOp, (F7.eval 9 (by omega)).trans (show _ = Value.int .i64 (q : Int) from by simp [upd, e2, e9, e10])]; first | rfl | simp [go_sem]) fun F8 => ?_
            refine lyp F8 rfl HCC rfl (by omega) (want_yes F8 rfl (e := 50) rfl (by omega) (show _ = Value.bool true from by simp [upd, e2, e9, e10])) (v := Value.pointer (some ⟨b, off + q * 7, none⟩)) (fun wr hwr => by simp only [execOp, (F8.eval 51 (by omega)).trans (show _ = Value.slice (some ⟨b, off, none⟩) KK lcap from by simp [upd, e2, e9, e10]), (F8.eval 52 (by omega)).trans (show _ = Value.int .i64 (q : Int) from by simp [upd, e2, e9, e10])]; simp only [Sem.run_bind, Sem.run_pure, Result.andThen_ok, idx_run 77 105 7 Tryz.underlying77 info46 wr b off KK lcap q hlt]; try rfl) fun F9 => ?_
            refine lyp F9 rfl HCC rfl (by omega) (want_yes F9 rfl (e := 50) rfl (by omega) (show _ = Value.bool true from by simp [upd, e2, e9, e10])) (v := Value.pointer (some ⟨b, off + q * 7, none⟩)) (fun wr hwr => by simp only [execOp, (F9.eval 53 (by omega)).trans (show _ = Value.pointer (some ⟨b, off + q * 7, none⟩) from by simp [upd, e2, e9, e10])]; simp [go_sem]) fun F10 => ?_
            refine lyp F10 rfl HCC rfl (by omega) (want_yes F10 rfl (e := 50) rfl (by omega) (show _ = Value.bool true from by simp [upd, e2, e9, e10])) (v := Value.string ⟨e.n.toArray⟩) (fun wr hwr => by subst hwr; simp only [execOp, (F10.eval 54 (by omega)).trans (show _ = Value.pointer (some ⟨b, off + q * 7, none⟩) from by simp [upd, e2, e9, e10])]; simp [go_sem, show (({ W with drawn := W.drawn + 1 } : World)).cell? ⟨b, off + q * 7, none⟩ = some (.string ⟨e.n.toArray⟩) from HVW.out.c0, HVW.out.c0]) fun F11 => ?_
            refine lyp F11 rfl HCC rfl (by omega) (want_yes F11 rfl (e := 50) rfl (by omega) (show _ = Value.bool true from by simp [upd, e2, e9, e10])) (v := Value.slice (some ⟨b, off, none⟩) KK lcap) (fun wr hwr => by simp only [execOp, (F11.eval 2 (by omega)).trans (show _ = Value.slice (some ⟨b, off, none⟩) KK lcap from by simp [upd, e2, e9, e10])]; first | rfl | simp [go_sem]) fun F12 => ?_
            refine lyp F12 rfl HCC rfl (by omega) (want_yes F12 rfl (e := 50) rfl (by omega) (show _ = Value.bool true from by simp [upd, e2, e9, e10])) (v := Value.int .i64 (q : Int)) (fun wr hwr => by simp only [execOp, (F12.eval 9 (by omega)).trans (show _ = Value.int .i64 (q : Int) from by simp [upd, e2, e9, e10])]; first | rfl | simp [go_sem]) fun F13 => ?_
            refine lyp F13 rfl HCC rfl (by omega) (want_yes F13 rfl (e := 50) rfl (by omega) (show _ = Value.bool true from by simp [upd, e2, e9, e10])) (v := Value.int .i64 ((q - 1 : Nat) : Int)) (fun wr hwr => by simp only [execOp, (F13.eval 57 (by omega)).trans (show _ = Value.int .i64 (q : Int) from by simp [upd, e2, e9, e10])]; simp [go_sem, Act.eval, hqw]) fun F14 => ?_
            refine lyp F14 rfl HCC rfl (by omega) (want_yes F14 rfl (e := 50) rfl (by omega) (show _ = Value.bool true from by simp [upd, e2, e9, e10])) (v := Value.pointer (some ⟨b, off + (q - 1) * 7, none⟩)) (fun wr hwr => by simp only [execOp, (F14.eval 56 (by omega)).trans (show _ = Value.slice (some ⟨b, off, none⟩) KK lcap from by simp [upd, e2, e9, e10]), (F14.eval 58 (by omega)).trans (show _ = Value.int .i64 ((q - 1 : Nat) : Int) from by simp [upd, e2, e9, e10])]; simp only [Sem.run_bind, Sem.run_pure, Result.andThen_ok, idx_run 77 105 7 Tryz.underlying77 info46 wr b off KK lcap (q - 1) hq1]; try rfl) fun F15 => ?_
            refine lyp F15 rfl HCC rfl (by omega) (want_yes F15 rfl (e := 50) rfl (by omega) (show _ = Value.bool true from by simp [upd, e2, e9, e10])) (v := Value.pointer (some ⟨b, off + (q - 1) * 7, none⟩)) (fun wr hwr => by simp only [execOp, (F15.eval 59 (by omega)).trans (show _ = Value.pointer (some ⟨b, off + (q - 1) * 7, none⟩) from by simp [upd, e2, e9, e10])]; simp [go_sem]) fun F16 => ?_
            refine lyp F16 rfl HCC rfl (by omega) (want_yes F16 rfl (e := 50) rfl (by omega) (show _ = Value.bool true from by simp [upd, e2, e9, e10])) (v := Value.string ⟨p.n.toArray⟩) (fun wr hwr => by subst hwr; simp only [execOp, (F16.eval 60 (by omega)).trans (show _ = Value.pointer (some ⟨b, off + (q - 1) * 7, none⟩) from by simp [upd, e2, e9, e10])]; simp [go_sem, show (({ W with drawn := W.drawn + 1 } : World)).cell? ⟨b, off + (q - 1) * 7, none⟩ = some (.string ⟨p.n.toArray⟩) from HPC, HPC]) fun F17 => ?_
            refine lyp F17 rfl HCC rfl (by omega) (want_yes F17 rfl (e := 50) rfl (by omega) (show _ = Value.bool true from by simp [upd, e2, e9, e10])) (v := Value.bool false) (fun wr hwr => by simp only [execOp, (F17.eval 55 (by omega)).trans (show _ = Value.string ⟨e.n.toArray⟩ from by simp [upd, e2, e9, e10]), (F17.eval 61 (by omega)).trans (show _ = Value.string ⟨p.n.toArray⟩ from by simp [upd, e2, e9, e10])]; simp [go_sem, Act.eval, HLE]) fun F18 => ?_
            refine lyp F18 rfl HCC rfl (by omega) (want_yes F18 rfl (e := 47) rfl (by omega) (show _ = Value.bool false from by simp [upd, e2, e9, e10])) (v := Value.bool false) (fun wr hwr => by simp only [execOp, (F18.eval 50 (by omega)).trans (show _ = Value.bool true from by simp [upd, e2, e9, e10]), (F18.eval 62 (by omega)).trans (show _ = Value.bool false from by simp [upd, e2, e9, e10])]; simp [go_sem, Act.eval]) fun F19 => ?_
            refine lyp F19 rfl HCC rfl (by omega) (wanted_none rfl) (v := Value.bool false) (fun wr hwr => by simp only [execOp, (F19.eval 47 (by omega)).trans (show _ = Value.bool false from by simp [upd, e2, e9, e10]), (F19.eval 63 (by omega)).trans (show _ = Value.bool false from by simp [upd, e2, e9, e10])]; simp [go_sem, Act.eval]) fun F20 => ?_
            refine ⟨fun _ => HCC, ?_⟩
            refine hK _ _ ?_
            clear F0 F1 F2 F3 F4 F5 F6 F7 F8 F9 F10 F11 F12 F13 F14 F15 F16 F17 F18 F19 F20 e2 e9 e10 HCC
            simp only [Act.put, List.setIfInBounds_toArray, List.set_cons_succ, List.set_cons_zero]
            clear HLE HPC hqw hq0
            obtain ⟨W2, hW2⟩ : ∃ W2 : World, W2 = ({ W with drawn := W.drawn + 1 } : World) := ⟨_, rfl⟩
            have HB2 : Hid (Below w.heap.size w W2) := show Below w.heap.size w W2 from by rw [hW2]; exact below_drewN HBW.out 1
            have g0 : W2.cell? ⟨b, off + q * 7, none⟩ = some (.string ⟨e.n.toArray⟩) := by rw [hW2]; exact HVW.out.c0
            have HLS : Hid _ := rlast_any r e.n W2 (HV.out.more HB2.out) (by omega)
            rw [← hW2]
            clear hW2 HBW HVW
            generalize lastD r e.n A0 = x0 at *
            have hf3 := fld3 x0
            unfold viewV at HLS hf3
            go_wp2_with fail
            refine Calls.mono HLS.out ?_
            rintro e9 W3 ⟨rfl, hb3⟩
            have HB3 : Hid (Below w.heap.size w W3) := HB2.out.trans (hb3.mono HB2.out.size)
            clear hb3 HLS HB2 g0
            by_cases hx0 : x0.v = 0
            · have hx0b : (x0.v == 0) = true := by simpa using hx0
              have HF1 : Hid (rfresh r A0 (es.take (q + 1)) = fr + 1) := show _ = _ from by rw [HFS.out, if_pos hx0]
              have hw2 : IntKind.i64.wrap ((fr : Int) + 1) = (fr : Int) + 1 := by rw [IntKind.wrap_i64]; omega
              clear hx0 HFS
              go_wp2_with fail
              go_roundw
              case rel => exact ⟨q + 1, by omega, by go_num, by rw [HF1.out]; go_num, HN.out, HB3.out⟩
              case measure => simp [intOf]; omega
            · have hx0b : (x0.v == 0) = false := by simpa using hx0
              have HF1 : Hid (rfresh r A0 (es.take (q + 1)) = fr) := show _ = _ from by rw [HFS.out, if_neg hx0]; rfl
              clear hx0 HFS
              go_wp2_with fail
              go_roundw
              case rel => exact ⟨q + 1, by omega, by go_num, by rw [HF1.out], HN.out, HB3.out⟩
              case measure => simp [intOf]; omega
          | false =>
            have HLE : (Op.bytesLess e.n p.n || e.n == p.n) = true := by
              have := nlt_tri p.n e.n
              rw [hnl] at this
              cases hh : (Op.bytesLess e.n p.n || e.n == p.n)
              · unfold nlt at this; rw [hh] at this; cases this
              · rfl
            have HCD : Hid (CD = 1) := show _ = _ from by rw [HC0.out, if_pos (dgB_not (dig_not2 HE.out hq0 HPP.out hnl))]
            have HNX : Hid (NX = (A0, 0)) := show _ = _ from by rw [HN0.out, HCD.out]; rfl
            clear hnl HC0 HN0
            go_wp2_with fail
            rename_i K hK
            try rw [show ∀ a : Act, a.put none undef = a from fun _ => rfl]
            refine wp_region_mix (fun wq => wq = ({ W with drawn := W.drawn + 1 } : World)) (fun i => i == 99) 99 (by kernel_rfl) rfl (by kernel_rfl) (by kernel_rfl) (by kernel_rfl) ?_
            refine withFrP (N := 123) rfl ?_
            intro f0 F0 hff
            have e2 : f0 2 = Value.slice (some ⟨b, off, none⟩) KK lcap := hff 2
            have e9 : f0 9 = Value.int .i64 (q : Int) := hff 9
            have e10 : f0 10 = Value.bool true := hff 10
            clear hff
            have HCC : (fun wq => wq = ({ W with drawn := W.drawn + 1 } : World)) (({ W with drawn := W.drawn + 1 } : World)) := rfl
            refine lyp F0 rfl HCC rfl (by omega) (wanted_none rfl) (v := Value.bool true) (fun wr hwr => by simp only [execOp, (F0.eval 10 (by omega)).trans (show _ = Value.bool true from by simp [upd, e2, e9, e10])]; first | rfl | simp [go_sem]) fun F1 => ?_
            refine lyp F1 rfl HCC rfl (by omega) (wanted_none rfl) (v := Value.bool false) (fun wr hwr => by simp only [execOp, (F1.eval 45 (by omega)).trans (show _ = Value.bool true from by simp [upd, e2, e9, e10])]; simp [go_sem, Act.eval]) fun F2 => ?_
            refine lyp F2 rfl HCC rfl (by omega) (wanted_none rfl) (v := Value.bool false) (fun wr hwr => by simp only [execOp, (F2.eval 46 (by omega)).trans (show _ = Value.bool false from by simp [upd, e2, e9, e10])]; first | rfl | simp [go_sem]) fun F3 => ?_
            refine lyp F3 rfl HCC rfl (by omega) (want_yes F3 rfl (e := 47) rfl (by omega) (show _ = Value.bool false from by simp [upd, e2, e9, e10])) (v := Value.int .i64 (q : Int)) (fun wr hwr => by simp only [execOp, (F3.eval 9 (by omega)).trans (show _ = Value.int .i64 (q : Int) from by simp [upd, e2, e9, e10])]; first | rfl | simp [go_sem]) fun F4 => ?_
            refine lyp F4 rfl HCC rfl (by omega) (want_yes F4 rfl (e := 47) rfl (by omega) (show _ = Value.bool false from by simp [upd, e2, e9, e10])) (v := Value.bool true) (fun wr hwr => by simp only [execOp, (F4.eval 48 (by omega)).trans (show _ = Value.int .i64 (q : Int) from by simp [upd, e2, e9, e10])]; simp [go_sem, Act.eval, hq0]) fun F5 => ?_
            refine lyp F5 rfl HCC rfl (by omega) (want_yes F5 rfl (e := 47) rfl (by omega) (show _ = Value.bool false from by simp [upd, e2, e9, e10])) (v := Value.bool true) (fun wr hwr => by simp only [execOp, (F5.eval 49 (by omega)).trans (show _ = Value.bool true from by simp [upd, e2, e9, e10])]; first | rfl | simp [go_sem]) fun F6 => ?_
            refine lyp F6 rfl HCC rfl (by omega) (want_yes F6 rfl (e := 50) rfl (by omega) (show _ = Value.bool true from by simp [upd, e2, e9, e10])) (v := Value.slice (some ⟨b, off, none⟩) KK lcap) (fun wr hwr => by simp only [execOp, (F6.eval 2 (by omega)).trans (show _ = Value.slice (some ⟨b, off, none⟩) KK lcap from by simp [upd, e2, e9, e10])]; first | rfl | simp [go_sem]) fun F7 => ?_
            refine lyp F7 rfl HCC rfl (by omega) (want_yes F7 rfl (e := 50) rfl (by omega) (show _ = Value.bool true from by simp [upd, e2, e9, e10])) (v := Value.int .i64 (q : Int)) (fun wr hwr => by simp only [execOp, (F7.eval 9 (by omega)).trans (show _ = Value.int .i64 (q : Int) from by simp [upd, e2, e9, e10])]; first | rfl | simp [go_sem]) fun F8 => ?_
            refine lyp F8 rfl HCC rfl (by omega) (want_yes F8 rfl (e := 50) rfl (by omega) (show _ = Value.bool true from by simp [upd, e2, e9, e10])) (v := Value.pointer (some ⟨b, off + q * 7, none⟩)) (fun wr hwr => by simp only [execOp, (F8.eval 51 (by omega)).trans (show _ = Value.slice (some ⟨b, off, none⟩) KK lcap from by simp [upd, e2, e9, e10]), (F8.eval 52 (by omega)).trans (show _ = Value.int .i64 (q : Int) from by simp [upd, e2, e9, e10])]; simp only [Sem.run_bind, Sem.run_pure, Result.andThen_ok, idx_run 77 105 7 Tryz.underlying77 info46 wr b off KK lcap q hlt]; try rfl) fun F9 => ?_
            refine lyp F9 rfl HCC rfl (by omega) (want_yes F9 rfl (e := 50) rfl (by omega) (show _ = Value.bool true from by simp [upd, e2, e9, e10])) (v := Value.pointer (some ⟨b, off + q * 7, none⟩)) (fun wr hwr => by simp only [execOp, (F9.eval 53 (by omega)).trans (show _ = Value.pointer (some ⟨b, off + q * 7, none⟩) from by simp [upd, e2, e9, e10])]; simp [go_sem]) fun F10 => ?_
            refine lyp F10 rfl HCC rfl (by omega) (want_yes F10 rfl (e := 50) rfl (by omega) (show _ = Value.bool true from by simp [upd, e2, e9, e10])) (v := Value.string ⟨e.n.toArray⟩) (fun wr hwr => by subst hwr; simp only [execOp, (F10.eval 54 (by omega)).trans (show _ = Value.pointer (some ⟨b, off + q * 7, none⟩) from by simp [upd, e2, e9, e10])]; simp [go_sem, show (({ W with drawn := W.drawn + 1 } : World)).cell? ⟨b, off + q * 7, none⟩ = some (.string ⟨e.n.toArray⟩) from HVW.out.c0, HVW.out.c0]) fun F11 => ?_
            refine lyp F11 rfl HCC rfl (by omega) (want_yes F11 rfl (e := 50) rfl (by omega) (show _ = Value.bool true from by simp [upd, e2, e9, e10])) (v := Value.slice (some ⟨b, off, none⟩) KK lcap) (fun wr hwr => by simp only [execOp, (F11.eval 2 (by omega)).trans (show _ = Value.slice (some ⟨b, off, none⟩) KK lcap from by simp [upd, e2, e9, e10])]; first | rfl | simp [go_sem]) fun F12 => ?_
            refine lyp F12 rfl HCC rfl (by omega) (want_yes F12 rfl (e := 50) rfl (by omega) (show _ = Value.bool true from by simp [upd, e2, e9, e10])) (v := Value.int .i64 (q : Int)) (fun wr hwr => by simp only [execOp, (F12.eval 9 (by omega)).trans (show _ = Value.int .i64 (q : Int) from by simp [upd, e2, e9, e10])]; first | rfl | simp [go_sem]) fun F13 => ?_
            refine lyp F13 rfl HCC rfl (by omega) (want_yes F13 rfl (e := 50) rfl (by omega) (show _ = Value.bool true from by simp [upd, e2, e9, e10])) (v := Value.int .i64 ((q - 1 : Nat) : Int)) (fun wr hwr => by simp only [execOp, (F13.eval 57 (by omega)).trans (show _ = Value.int .i64 (q : Int) from by simp [upd, e2, e9, e10])]; simp [go_sem, Act.eval, hqw]) fun F14 => ?_
            refine lyp F14 rfl HCC rfl (by omega) (want_yes F14 rfl (e := 50) rfl (by omega) (show _ = Value.bool true from by simp [upd, e2, e9, e10])) (v := Value.pointer (some ⟨b, off + (q - 1) * 7, none⟩)) (fun wr hwr => by simp only [execOp, (F14.eval 56 (by omega)).trans (show _ = Value.slice (some ⟨b, off, none⟩) KK lcap from by simp [upd, e2, e9, e10]), (F14.eval 58 (by omega)).trans (show _ = Value.int .i64 ((q - 1 : Nat) : Int) from by simp [upd, e2, e9, e10])]; simp only [Sem.run_bind, Sem.run_pure, Result.andThen_ok, idx_run 77 105 7 Tryz.underlying77 info46 wr b off KK lcap (q - 1) hq1]; try rfl) fun F15 => ?_
            refine lyp F15 rfl HCC rfl (by omega) (want_yes F15 rfl (e := 50) rfl (by omega) (show _ = Value.bool true from by simp [upd, e2, e9, e10])) (v := Value.pointer (some ⟨b, off + (q - 1) * 7, none⟩)) (fun wr hwr => by simp only [execOp, (F15.eval 59 (by omega)).trans (show _ = Value.pointer (some ⟨b, off + (q - 1) * 7, none⟩) from by simp [upd, e2, e9, e10])]; simp [go_sem]) fun F16 => ?_
            refine lyp F16 rfl HCC rfl (by omega) (want_yes F16 rfl (e := 50) rfl (by omega) (show _ = Value.bool true from by simp [upd, e2, e9, e10])) (v := Value.string ⟨p.n.toArray⟩) (fun wr hwr => by subst hwr; simp only [execOp, (F16.eval 60 (by omega)).trans (show _ = Value.pointer (some ⟨b, off + (q - 1) * 7, none⟩) from by simp [upd, e2, e9, e10])]; simp [go_sem, show (({ W with drawn := W.drawn + 1 } : World)).cell? ⟨b, off + (q - 1) * 7, none⟩ = some (.string ⟨p.n.toArray⟩) from HPC, HPC]) fun F17 => ?_
            refine lyp F17 rfl HCC rfl (by omega) (want_yes F17 rfl (e := 50) rfl (by omega) (show _ = Value.bool true from by simp [upd, e2, e9, e10])) (v := Value.bool true) (fun wr hwr => by simp only [execOp, (F17.eval 55 (by omega)).trans (show _ = Value.string ⟨e.n.toArray⟩ from by simp [upd, e2, e9, e10]), (F17.eval 61 (by omega)).trans (show _ = Value.string ⟨p.n.toArray⟩ from by simp [upd, e2, e9, e10])]; simp [go_sem, Act.eval, HLE]) fun F18 => ?_
            refine lyp F18 rfl HCC rfl (by omega) (want_yes F18 rfl (e := 47) rfl (by omega) (show _ = Value.bool false from by simp [upd, e2, e9, e10])) (v := Value.bool true) (fun wr hwr => by simp only [execOp, (F18.eval 50 (by omega)).trans (show _ = Value.bool true from by simp [upd, e2, e9, e10]), (F18.eval 62 (by omega)).trans (show _ = Value.bool true from by simp [upd, e2, e9, e10])]; simp [go_sem, Act.eval]) fun F19 => ?_
            refine lyp F19 rfl HCC rfl (by omega) (wanted_none rfl) (v := Value.bool true) (fun wr hwr => by simp only [execOp, (F19.eval 47 (by omega)).trans (show _ = Value.bool false from by simp [upd, e2, e9, e10]), (F19.eval 63 (by omega)).trans (show _ = Value.bool true from by simp [upd, e2, e9, e10])]; simp [go_sem, Act.eval]) fun F20 => ?_
            refine ⟨fun _ => HCC, ?_⟩
            refine hK _ _ ?_
            clear F0 F1 F2 F3 F4 F5 F6 F7 F8 F9 F10 F11 F12 F13 F14 F15 F16 F17 F18 F19 F20 e2 e9 e10 HCC
            simp only [Act.put, List.setIfInBounds_toArray, List.set_cons_succ, List.set_cons_zero]
            clear HLE HPC hqw hq0
            go_wp2_with fail
            go_ret2
            exact ⟨by rw [HCD.out, HNX.out]; rfl, by rw [HNX.out]; exact HST.out _ (below_drewN HBW.out 1)⟩
        · have HRT : Hid (e.right = true) := hrt
          obtain rfl : q = 0 := by omega
          have HN : Hid (Dig (es.take (0 + 1))) := dig_more HP.out HE.out HRT.out (fun p' h0 _ => absurd h0 hq0)
          clear hrt hq0
          go_wp2_with fail
          rename_i K hK
          try rw [show ∀ a : Act, a.put none undef = a from fun _ => rfl]
          refine wp_region_mix (fun wq => wq = ({ W with drawn := W.drawn + 1 } : World)) (fun i => i == 99) 99 (by kernel_rfl) rfl (by kernel_rfl) (by kernel_rfl) (by kernel_rfl) ?_
          refine withFrP (N := 123) rfl ?_
          intro f0 F0 hff
          have e2 : f0 2 = Value.slice (some ⟨b, off, none⟩) KK lcap := hff 2
          have e9 : f0 9 = Value.int .i64 0 := hff 9
          have e10 : f0 10 = Value.bool true := hff 10
          clear hff
          have HCC : (fun wq => wq = ({ W with drawn := W.drawn + 1 } : World)) (({ W with drawn := W.drawn + 1 } : World)) := rfl
          refine lyp F0 rfl HCC rfl (by omega) (wanted_none rfl) (v := Value.bool true) (fun wr hwr => by simp only [execOp, (F0.eval 10 (by omega)).trans (show _ = Value.bool true from by simp [upd, e2, e9, e10])]; first | rfl | simp [go_sem]) fun F1 => ?_
          refine lyp F1 rfl HCC rfl (by omega) (wanted_none rfl) (v := Value.bool false) (fun wr hwr => by simp only [execOp, (F1.eval 45 (by omega)).trans (show _ = Value.bool true from by simp [upd, e2, e9, e10])]; simp [go_sem, Act.eval]) fun F2 => ?_
          refine lyp F2 rfl HCC rfl (by omega) (wanted_none rfl) (v := Value.bool false) (fun wr hwr => by simp only [execOp, (F2.eval 46 (by omega)).trans (show _ = Value.bool false from by simp [upd, e2, e9, e10])]; first | rfl | simp [go_sem]) fun F3 => ?_
          refine lyp F3 rfl HCC rfl (by omega) (want_yes F3 rfl (e := 47) rfl (by omega) (show _ = Value.bool false from by simp [upd, e2, e9, e10])) (v := Value.int .i64 0) (fun wr hwr => by simp only [execOp, (F3.eval 9 (by omega)).trans (show _ = Value.int .i64 0 from by simp [upd, e2, e9, e10])]; first | rfl | simp [go_sem]) fun F4 => ?_
          refine lyp F4 rfl HCC rfl (by omega) (want_yes F4 rfl (e := 47) rfl (by omega) (show _ = Value.bool false from by simp [upd, e2, e9, e10])) (v := Value.bool false) (fun wr hwr => by simp only [execOp, (F4.eval 48 (by omega)).trans (show _ = Value.int .i64 0 from by simp [upd, e2, e9, e10])]; simp [go_sem, Act.eval]) fun F5 => ?_
          refine lyp F5 rfl HCC rfl (by omega) (want_yes F5 rfl (e := 47) rfl (by omega) (show _ = Value.bool false from by simp [upd, e2, e9, e10])) (v := Value.bool false) (fun wr hwr => by simp only [execOp, (F5.eval 49 (by omega)).trans (show _ = Value.bool false from by simp [upd, e2, e9, e10])]; first | rfl | simp [go_sem]) fun F6 => ?_
          refine lnp F6 rfl HCC rfl (by omega) (want_no F6 rfl (e := 50) rfl (by omega) (show _ = Value.bool false from by simp [upd, e2, e9, e10]) (by decide)) fun F7 => ?_
          refine lnp F7 rfl HCC rfl (by omega) (want_no F7 rfl (e := 50) rfl (by omega) (show _ = Value.bool false from by simp [upd, e2, e9, e10]) (by decide)) fun F8 => ?_
          refine lnp F8 rfl HCC rfl (by omega) (want_no F8 rfl (e := 50) rfl (by omega) (show _ = Value.bool false from by simp [upd, e2, e9, e10]) (by decide)) fun F9 => ?_
          refine lnp F9 rfl HCC rfl (by omega) (want_no F9 rfl (e := 50) rfl (by omega) (show _ = Value.bool false from by simp [upd, e2, e9, e10]) (by decide)) fun F10 => ?_
          refine lnp F10 rfl HCC rfl (by omega) (want_no F10 rfl (e := 50) rfl (by omega) (show _ = Value.bool false from by simp [upd, e2, e9, e10]) (by decide)) fun F11 => ?_
          refine lnp F11 rfl HCC rfl (by omega) (want_no F11 rfl (e := 50) rfl (by omega) (show _ = Value.bool false from by simp [upd, e2, e9, e10]) (by decide)) fun F12 => ?_
          refine lnp F12 rfl HCC rfl (by omega) (want_no F12 rfl (e := 50) rfl (by omega) (show _ = Value.bool false from by simp [upd, e2, e9, e10]) (by decide)) fun F13 => ?_
          refine lnp F13 rfl HCC rfl (by omega) (want_no F13 rfl (e := 50) rfl (by omega) (show _ = Value.bool false from by simp [upd, e2, e9, e10]) (by decide)) fun F14 => ?_
          refine lnp F14 rfl HCC rfl (by omega) (want_no F14 rfl (e := 50) rfl (by omega) (show _ = Value.bool false from by simp [upd, e2, e9, e10]) (by decide)) fun F15 => ?_
          refine lnp F15 rfl HCC rfl (by omega) (want_no F15 rfl (e := 50) rfl (by omega) (show _ = Value.bool false from by simp [upd, e2, e9, e10]) (by decide)) fun F16 => ?_
          refine lnp F16 rfl HCC rfl (by omega) (want_no F16 rfl (e := 50) rfl (by omega) (show _ = Value.bool false from by simp [upd, e2, e9, e10]) (by decide)) fun F17 => ?_
          refine lnp F17 rfl HCC rfl (by omega) (want_no F17 rfl (e := 50) rfl (by omega) (show _ = Value.bool false from by simp [upd, e2, e9, e10]) (by decide)) fun F18 => ?_
          refine lyp F18 rfl HCC rfl (by omega) (want_yes F18 rfl (e := 47) rfl (by omega) (show _ = Value.bool false from by simp [upd, e2, e9, e10])) (v := Value.bool false) (fun wr hwr => by simp only [execOp, (F18.eval 50 (by omega)).trans (show _ = Value.bool false from by simp [upd, e2, e9, e10])]; simp [go_sem, Act.eval]) fun F19 => ?_
          refine lyp F19 rfl HCC rfl (by omega) (wanted_none rfl) (v := Value.bool false) (fun wr hwr => by simp only [execOp, (F19.eval 47 (by omega)).trans (show _ = Value.bool false from by simp [upd, e2, e9, e10]), (F19.eval 63 (by omega)).trans (show _ = Value.bool false from by simp [upd, e2, e9, e10])]; simp [go_sem, Act.eval]) fun F20 => ?_
          refine ⟨fun _ => HCC, ?_⟩
          refine hK _ _ ?_
          clear F0 F1 F2 F3 F4 F5 F6 F7 F8 F9 F10 F11 F12 F13 F14 F15 F16 F17 F18 F19 F20 e2 e9 e10 HCC
          simp only [Act.put, List.setIfInBounds_toArray, List.set_cons_succ, List.set_cons_zero]
          obtain ⟨W2, hW2⟩ : ∃ W2 : World, W2 = ({ W with drawn := W.drawn + 1 } : World) := ⟨_, rfl⟩
          have HB2 : Hid (Below w.heap.size w W2) := show Below w.heap.size w W2 from by rw [hW2]; exact below_drewN HBW.out 1
          have g0 : W2.cell? ⟨b, off, none⟩ = some (.string ⟨e.n.toArray⟩) := by rw [hW2]; have h9 := HVW.out.c0; rwa [Nat.zero_mul, Nat.add_zero] at h9
          have HLS : Hid _ := rlast_any r e.n W2 (HV.out.more HB2.out) (by omega)
          rw [← hW2]
          clear hW2 HBW HVW
          generalize lastD r e.n A0 = x0 at *
          have hf3 := fld3 x0
          unfold viewV at HLS hf3
          go_wp2_with fail
          refine Calls.mono HLS.out ?_
          rintro e9 W3 ⟨rfl, hb3⟩
          have HB3 : Hid (Below w.heap.size w W3) := HB2.out.trans (hb3.mono HB2.out.size)
          clear hb3 HLS HB2 g0
          by_cases hx0 : x0.v = 0
          · have hx0b : (x0.v == 0) = true := by simpa using hx0
            have HF1 : Hid (rfresh r A0 (es.take (0 + 1)) = fr + 1) := show _ = _ from by rw [HFS.out, if_pos hx0]
            have hw2 : IntKind.i64.wrap ((fr : Int) + 1) = (fr : Int) + 1 := by rw [IntKind.wrap_i64]; omega
            clear hx0 HFS
            go_wp2_with fail
            go_roundw
            case rel => exact ⟨0 + 1, by omega, by go_num, by rw [HF1.out]; go_num, HN.out, HB3.out⟩
            case measure => simp [intOf]; omega
          · have hx0b : (x0.v == 0) = false := by simpa using hx0
            have HF1 : Hid (rfresh r A0 (es.take (0 + 1)) = fr) := show _ = _ from by rw [HFS.out, if_neg hx0]; rfl
            clear hx0 HFS
            go_wp2_with fail
            go_roundw
            case rel => exact ⟨0 + 1, by omega, by go_num, by rw [HF1.out], HN.out, HB3.out⟩
            case measure => simp [intOf]; omega
      · replace hrt : e.right = false := by simpa using hrt
        rw [hrt]
        have HCD : Hid (CD = 1) := show _ = _ from by rw [HC0.out, if_pos (dgB_not (dig_not HE.out hrt))]
        have HNX : Hid (NX = (A0, 0)) := show _ = _ from by rw [HN0.out, HCD.out]; rfl
        clear hrt HC0 HN0
        go_wp2_with fail
        rename_i K hK
        try rw [show ∀ a : Act, a.put none undef = a from fun _ => rfl]
        refine wp_region_mix (fun wq => wq = ({ W with drawn := W.drawn + 1 } : World)) (fun i => i == 99) 99 (by kernel_rfl) rfl (by kernel_rfl) (by kernel_rfl) (by kernel_rfl) ?_
        refine withFrP (N := 123) rfl ?_
        intro f0 F0 hff
        have e2 : f0 2 = Value.slice (some ⟨b, off, none⟩) KK lcap := hff 2
        have e9 : f0 9 = Value.int .i64 (q : Int) := hff 9
        have e10 : f0 10 = Value.bool false := hff 10
        clear hff
        have HCC : (fun wq => wq = ({ W with drawn := W.drawn + 1 } : World)) (({ W with drawn := W.drawn + 1 } : World)) := rfl
        refine lyp F0 rfl HCC rfl (by omega) (wanted_none rfl) (v := Value.bool false) (fun wr hwr => by simp only [execOp, (F0.eval 10 (by omega)).trans (show _ = Value.bool false from by simp [upd, e2, e9, e10])]; first | rfl | simp [go_sem]) fun F1 => ?_
        refine lyp F1 rfl HCC rfl (by omega) (wanted_none rfl) (v := Value.bool true) (fun wr hwr => by simp only [execOp, (F1.eval 45 (by omega)).trans (show _ = Value.bool false from by simp [upd, e2, e9, e10])]; simp [go_sem, Act.eval]) fun F2 => ?_
        refine lyp F2 rfl HCC rfl (by omega) (wanted_none rfl) (v := Value.bool true) (fun wr hwr => by simp only [execOp, (F2.eval 46 (by omega)).trans (show _ = Value.bool true from by simp [upd, e2, e9, e10])]; first | rfl | simp [go_sem]) fun F3 => ?_
        refine lnp F3 rfl HCC rfl (by omega) (want_no F3 rfl (e := 47) rfl (by omega) (show _ = Value.bool true from by simp [upd, e2, e9, e10]) (by decide)) fun F4 => ?_
        refine lnp F4 rfl HCC rfl (by omega) (want_no F4 rfl (e := 47) rfl (by omega) (show _ = Value.bool true from by simp [upd, e2, e9, e10]) (by decide)) fun F5 => ?_
        refine lnp F5 rfl HCC rfl (by omega) (want_no F5 rfl (e := 47) rfl (by omega) (show _ = Value.bool true from by simp [upd, e2, e9, e10]) (by decide)) fun F6 => ?_
        refine lnp F6 rfl HCC rfl (by omega) (want_not F6 rfl (e := 50) rfl (by omega) (show _ = undef from by simp [upd, e2, e9, e10])) fun F7 => ?_
        refine lnp F7 rfl HCC rfl (by omega) (want_not F7 rfl (e := 50) rfl (by omega) (show _ = undef from by simp [upd, e2, e9, e10])) fun F8 => ?_
        refine lnp F8 rfl HCC rfl (by omega) (want_not F8 rfl (e := 50) rfl (by omega) (show _ = undef from by simp [upd, e2, e9, e10])) fun F9 => ?_
        refine lnp F9 rfl HCC rfl (by omega) (want_not F9 rfl (e := 50) rfl (by omega) (show _ = undef from by simp [upd, e2, e9, e10])) fun F10 => ?_
        refine lnp F10 rfl HCC rfl (by omega) (want_not F10 rfl (e := 50) rfl (by omega) (show _ = undef from by simp [upd, e2, e9, e10])) fun F11 => ?_
        refine lnp F11 rfl HCC rfl (by omega) (want_not F11 rfl (e := 50) rfl (by omega) (show _ = undef from by simp [upd, e2, e9, e10])) fun F12 => ?_
        refine lnp F12 rfl HCC rfl (by omega) (want_not F12 rfl (e := 50) rfl (by omega) (show _ = undef from by simp [upd, e2, e9, e10])) fun F13 => ?_
        refine lnp F13 rfl HCC rfl (by omega) (want_not F13 rfl (e := 50) rfl (by omega) (show _ = undef from by simp [upd, e2, e9, e10])) fun F14 => ?_
        refine lnp F14 rfl HCC rfl (by omega) (want_not F14 rfl (e := 50) rfl (by omega) (show _ = undef from by simp [upd, e2, e9, e10])) fun F15 => ?_
        refine lnp F15 rfl HCC rfl (by omega) (want_not F15 rfl (e := 50) rfl (by omega) (show _ = undef from by simp [upd, e2, e9, e10])) fun F16 => ?_
        refine lnp F16 rfl HCC rfl (by omega) (want_not F16 rfl (e := 50) rfl (by omega) (show _ = undef from by simp [upd, e2, e9, e10])) fun F17 => ?_
        refine lnp F17 rfl HCC rfl (by omega) (want_not F17 rfl (e := 50) rfl (by omega) (show _ = undef from by simp [upd, e2, e9, e10])) fun F18 => ?_
        refine lnp F18 rfl HCC rfl (by omega) (want_no F18 rfl (e := 47) rfl (by omega) (show _ = Value.bool true from by simp [upd, e2, e9, e10]) (by decide)) fun F19 => ?_
        refine lyp F19 rfl HCC rfl (by omega) (wanted_none rfl) (v := Value.bool true) (fun wr hwr => by simp only [execOp, (F19.eval 47 (by omega)).trans (show _ = Value.bool true from by simp [upd, e2, e9, e10])]; simp [go_sem, Act.eval]) fun F20 => ?_
        refine ⟨fun _ => HCC, ?_⟩
        refine hK _ _ ?_
        clear F0 F1 F2 F3 F4 F5 F6 F7 F8 F9 F10 F11 F12 F13 F14 F15 F16 F17 F18 F19 F20 e2 e9 e10 HCC
        simp only [Act.put, List.setIfInBounds_toArray, List.set_cons_succ, List.set_cons_zero]
        go_wp2_with fail
        go_ret2
        exact ⟨by rw [HCD.out, HNX.out]; rfl, by rw [HNX.out]; exact HST.out _ (below_drewN HBW.out 1)⟩
    · have hqk : es.take q = es := List.take_of_length_le (by rw [HL.out]; omega)
      rw [hqk] at hpre hfl ⊢
      have HDG : Hid (dgB es = true) := dgB_iff.2 hpre
      have HB : Hid (Below w.heap.size w wr) := hbel
      rw [HDG.out, if_neg (by simp)] at HC0
      generalize rfresh r A0 es = fr at *
      clear hpre hbel hqk k0 k1
      have HNM : Hid _ := names_any' r wr (HV.out.more HB.out) (by omega)
      have hnl9 : (nmsL r A0).length ≤ 90000 := Nat.le_trans (nmsL_len _ _) hA
      go_wp2_with fail
      refine Calls.mono HNM.out ?_
      rintro e9 w3 ⟨nv, rfl, hnr, hb4⟩
      obtain ⟨na, nc, hnv, hq9⟩ := own_slice hnr
      subst hnv
      have HB3 : Hid (Below w.heap.size w w3) := HB.out.trans (hb4.mono HB.out.size)
      clear hq9 hnr hb4 HNM HB
      generalize (nmsL r A0).length = nn at *
      have hw1 : IntKind.i64.wrap ((nn : Int) + (fr : Int)) = (nn : Int) + (fr : Int) := by rw [IntKind.wrap_i64]; omega
      by_cases c5 : 64 < nn + fr
      · have c5i : (64 : Int) < (nn : Int) + (fr : Int) := by omega
        have HCD : Hid (CD = 102) := show _ = _ from by rw [HC0.out, if_pos c5]
        have HNX : Hid (NX = (A0, 0)) := show _ = _ from by rw [HN0.out, HCD.out]; rfl
        clear HC0 HN0 c5
        go_wp2_with fail
        go_ret2
        exact ⟨by rw [HCD.out, HNX.out]; rfl, by rw [HNX.out]; exact HST.out _ HB3.out⟩
      · have c5i : ¬ (64 : Int) < (nn : Int) + (fr : Int) := by omega
        have HCD : Hid (CD = 0) := show _ = _ from by rw [HC0.out, if_neg c5]
        have HNX : Hid (NX = rtakeF r A0 es) := show _ = _ from by rw [HN0.out, HCD.out]; rfl
        clear HC0 HN0 c5
        go_wp2_with fail
        go_loopw [11, 12] (fun f i wr => ∃ (q : Nat) (v : Value), q ≤ KK ∧ i = .int .i64 q ∧ f = .int .i64 ((rtakeF r A0 (es.take q)).2 : Nat) ∧ RStep L rb me N v0 v (rtakeF r A0 (es.take q)).1 w wr) (fun _ i _ => KK - (intOf i).toNat)
        case atStart => exact ⟨0, v0, Nat.zero_le _, rfl, rfl, HV.out.more HB3.out, Chg.ofBelow _ HB3.out, fun g hg => Or.inl hg⟩
        case round =>
          obtain ⟨q, v, hq, rfl, rfl, hst⟩ := hrel
          by_cases hlt : q < KK
          · obtain ⟨e, he⟩ : ∃ e, es[q]? = some e := ⟨es[q]'(by rw [HL.out]; exact hlt), List.getElem?_eq_getElem _⟩
            obtain ⟨b, off, hla, hc⟩ := HF.out (by rw [HL.out]; omega)
            subst hla
            have hbs : b < w.heap.size := (hc q e he).lt
            obtain ⟨hb1, hb2⟩ := HFM.out (by omega) b off rfl
            have HVQ : Hid (VAt wr b (off + q * 7) e) := hst.from (es := es) hbs hb1 hb2 (hc q e he)
            have HTM : Hid (rtakeF r A0 (es.take (q + 1)) = rtakeStep r (rtakeF r A0 (es.take q)) e) := rtakeF_more he
            have hle := rtakeF_le r A0 q es
            generalize rtakeF r A0 (es.take q) = acc at *
            obtain ⟨A, cn⟩ := acc
            simp only at hle hst ⊢
            obtain ⟨ao, cap, hvv, hq9⟩ := own_slice hst.vw.row
            subst hvv
            have HAL : Hid (A.length ≤ 200000) := show A.length ≤ 200000 from by omega
            have HS0 : Hid (RStep L rb me N v0 (.slice ao A.length cap) A w wr) := hst
            have HLS : Hid (∀ W, RVw L rb me N (.slice ao A.length cap) A W → _) := fun W h => rlast_any r e.n W h (by omega)
            have HBN : Hid (b ≠ rb ∧ v0.ownBlock ≠ some b ∧ b < w.heap.size) := ⟨hb1, hb2, hbs⟩
            have hcn : cn ≤ 64 := by omega
            have HTS : Hid (rtakeStep r (A, cn) e = if (lastD r e.n A).v < e.v then (A ++ [{ e with r := r }], cn + 1) else (A, cn)) := rfl
            generalize lastD r e.n A = x0 at *
            unfold viewV at HLS
            clear hst he hc hb1 hb2 hbs hq9 hle
            by_cases hvv : x0.v < e.v
            · have HTE : Hid (rtakeF r A0 (es.take (q + 1)) = (A ++ [{ e with r := r }], cn + 1)) := show _ = _ from by rw [HTM.out, HTS.out, if_pos hvv]
              clear HTM HTS
              go_wp2_with fail
              rename_i K hK
              try rw [show ∀ a : Act, a.put none undef = a from fun _ => rfl]
              refine wp_region_mix (fun wq => VAt wq b (off + q * 7) e) (fun i => i == 12 || i == 99) 99 (by kernel_rfl) rfl (by kernel_rfl) (by kernel_rfl) (by kernel_rfl) ?_
              refine withFrP (N := 123) rfl ?_
              intro f0 F0 hff
              have ee0 : f0 0 = Value.pointer (some ⟨rb, 0, none⟩) := hff 0
              have ee1 : f0 1 = Value.int .i64 r := hff 1
              have ee2 : f0 2 = Value.slice (some ⟨b, off, none⟩) KK lcap := hff 2
              have ee12 : f0 12 = Value.int .i64 ((q : Nat) : Int) := hff 12
              clear hff
              have HCC : (fun wq => VAt wq b (off + q * 7) e) (({ wr with drawn := wr.drawn + 1 } : World)) := HVQ.out.keep rfl
              refine lyp F0 rfl HCC rfl (by omega) (wanted_none rfl) (v := Value.slice (some ⟨b, off, none⟩) KK lcap) (fun wr hwr => by simp only [execOp, (F0.eval 2 (by omega)).trans (show _ = Value.slice (some ⟨b, off, none⟩) KK lcap from by simp [upd, ee0, ee1, ee2, ee12])]; first | rfl | simp [go_sem]) fun F1 => ?_
              refine lyp F1 rfl HCC rfl (by omega) (wanted_none rfl) (v := Value.int .i64 ((q : Nat) : Int)) (fun wr hwr => by simp only [execOp, (F1.eval 12 (by omega)).trans (show _ = Value.int .i64 ((q : Nat) : Int) from by simp [upd, ee0, ee1, ee2, ee12])]; first | rfl | simp [go_sem]) fun F2 => ?_
              refine lyp F2 rfl HCC rfl (by omega) (wanted_none rfl) (v := Value.pointer (some ⟨b, off + q * 7, none⟩)) (fun wr hwr => by simp only [execOp, (F2.eval 90 (by omega)).trans (show _ = Value.slice (some ⟨b, off, none⟩) KK lcap from by simp [upd, ee0, ee1, ee2, ee12]), (F2.eval 91 (by omega)).trans (show _ = Value.int .i64 ((q : Nat) : Int) from by simp [upd, ee0, ee1, ee2, ee12])]; simp only [Sem.run_bind, Sem.run_pure, Result.andThen_ok, idx_run 77 105 7 Tryz.underlying77 info46 wr b off KK lcap q hlt]; try rfl) fun F3 => ?_
              refine lyp F3 rfl HCC rfl (by omega) (wanted_none rfl) (v := Value.pointer (some ⟨b, off + q * 7 + 3, none⟩)) (fun wr hwr => by simp only [execOp, (F3.eval 92 (by omega)).trans (show _ = Value.pointer (some ⟨b, off + q * 7, none⟩) from by simp [upd, ee0, ee1, ee2, ee12])]; simp [go_sem]) fun F4 => ?_
              refine lyp F4 rfl HCC rfl (by omega) (wanted_none rfl) (v := Value.int .i64 e.v) (fun wr hwr => by simp only [execOp, (F4.eval 93 (by omega)).trans (show _ = Value.pointer (some ⟨b, off + q * 7 + 3, none⟩) from by simp [upd, ee0, ee1, ee2, ee12])]; simp [go_sem, hwr.c3]) fun F5 => ?_
              refine lyp F5 rfl HCC rfl (by omega) (wanted_none rfl) (v := Value.pointer (some ⟨rb, 0, none⟩)) (fun wr hwr => by simp only [execOp, (F5.eval 0 (by omega)).trans (show _ = Value.pointer (some ⟨rb, 0, none⟩) from by simp [upd, ee0, ee1, ee2, ee12])]; first | rfl | simp [go_sem]) fun F6 => ?_
              refine lyp F6 rfl HCC rfl (by omega) (wanted_none rfl) (v := Value.int .i64 r) (fun wr hwr => by simp only [execOp, (F6.eval 1 (by omega)).trans (show _ = Value.int .i64 r from by simp [upd, ee0, ee1, ee2, ee12])]; first | rfl | simp [go_sem]) fun F7 => ?_
              refine lyp F7 rfl HCC rfl (by omega) (wanted_none rfl) (v := Value.slice (some ⟨b, off, none⟩) KK lcap) (fun wr hwr => by simp only [execOp, (F7.eval 2 (by omega)).trans (show _ = Value.slice (some ⟨b, off, none⟩) KK lcap from by simp [upd, ee0, ee1, ee2, ee12])]; first | rfl | simp [go_sem]) fun F8 => ?_
              refine lyp F8 rfl HCC rfl (by omega) (wanted_none rfl) (v := Value.int .i64 ((q : Nat) : Int)) (fun wr hwr => by simp only [execOp, (F8.eval 12 (by omega)).trans (show _ = Value.int .i64 ((q : Nat) : Int) from by simp [upd, ee0, ee1, ee2, ee12])]; first | rfl | simp [go_sem]) fun F9 => ?_
              refine lyp F9 rfl HCC rfl (by omega) (wanted_none rfl) (v := Value.pointer (some ⟨b, off + q * 7, none⟩)) (fun wr hwr => by simp only [execOp, (F9.eval 97 (by omega)).trans (show _ = Value.slice (some ⟨b, off, none⟩) KK lcap from by simp [upd, ee0, ee1, ee2, ee12]), (F9.eval 98 (by omega)).trans (show _ = Value.int .i64 ((q : Nat) : Int) from by simp [upd, ee0, ee1, ee2, ee12])]; simp only [Sem.run_bind, Sem.run_pure, Result.andThen_ok, idx_run 77 105 7 Tryz.underlying77 info46 wr b off KK lcap q hlt]; try rfl) fun F10 => ?_
              refine lyp F10 rfl HCC rfl (by omega) (wanted_none rfl) (v := Value.pointer (some ⟨b, off + q * 7, none⟩)) (fun wr hwr => by simp only [execOp, (F10.eval 99 (by omega)).trans (show _ = Value.pointer (some ⟨b, off + q * 7, none⟩) from by simp [upd, ee0, ee1, ee2, ee12])]; simp [go_sem]) fun F11 => ?_
              refine lyp F11 rfl HCC rfl (by omega) (wanted_none rfl) (v := Value.string ⟨e.n.toArray⟩) (fun wr hwr => by simp only [execOp, (F11.eval 100 (by omega)).trans (show _ = Value.pointer (some ⟨b, off + q * 7, none⟩) from by simp [upd, ee0, ee1, ee2, ee12])]; simp [go_sem, hwr.c0]) fun F12 => ?_
              refine lcp F12 rfl HCC rfl (by omega) (wanted_none rfl) (g := 76) (args := #[Value.pointer (some ⟨rb, 0, none⟩), Value.int .i64 r, Value.string ⟨e.n.toArray⟩]) (by simp only [execOp, resolve, invoke, List.map_toArray, List.map_cons, List.map_nil, (F12.eval 95 (by omega)).trans (show _ = Value.pointer (some ⟨rb, 0, none⟩) from by simp [upd, ee0, ee1, ee2, ee12]), (F12.eval 96 (by omega)).trans (show _ = Value.int .i64 r from by simp [upd, ee0, ee1, ee2, ee12]), (F12.eval 101 (by omega)).trans (show _ = Value.string ⟨e.n.toArray⟩ from by simp [upd, ee0, ee1, ee2, ee12])]; simp [go_sem, Act.eval]) (HLS.out (({ wr with drawn := wr.drawn + 1 } : World)) (HS0.out.vw.keep rfl (fun _ _ => rfl))) ?_
              rintro e9 Y ⟨rfl, hbY⟩
              refine ⟨_, rfl, fun F13 => ?_⟩
              have HC2 : (fun wq => VAt wq b (off + q * 7) e) Y := HCC.keep (hbY.block _ HCC.lt)
              refine lyp F13 rfl HC2 rfl (by omega) (wanted_none rfl) (v := Value.int .i64 x0.v) (fun wr hwr => by simp only [execOp, (F13.eval 102 (by omega)).trans (show _ = Value.agg #[.string ⟨x0.n.toArray⟩, .int .i64 x0.c, .int .i64 x0.rc, .int .i64 x0.v, .int .i64 x0.d, .int .i64 x0.u, .int .i64 x0.h] from by simp [upd, ee0, ee1, ee2, ee12])]; simp [go_sem, show (Instr.field 105 (.agg #[.string ⟨x0.n.toArray⟩, .int .i64 x0.c, .int .i64 x0.rc, .int .i64 x0.v, .int .i64 x0.d, .int .i64 x0.u, .int .i64 x0.h]) 3).run Tryz.prog wr = .ok (.int .i64 x0.v) wr from fld3 x0 wr]) fun F14 => ?_
              refine lyp F14 rfl HC2 rfl (by omega) (wanted_none rfl) (v := Value.bool true) (fun wr hwr => by simp only [execOp, (F14.eval 94 (by omega)).trans (show _ = Value.int .i64 e.v from by simp [upd, ee0, ee1, ee2, ee12]), (F14.eval 103 (by omega)).trans (show _ = Value.int .i64 x0.v from by simp [upd, ee0, ee1, ee2, ee12])]; simp [go_sem, Act.eval, hvv]) fun F15 => ?_
              refine ⟨fun _ => HC2, ?_⟩
              refine hK _ _ ?_
              clear F0 F1 F2 F3 F4 F5 F6 F7 F8 F9 F10 F11 F12 F13 F14 F15 ee0 ee1 ee2 ee12 HCC HC2
              simp only [Act.put, List.setIfInBounds_toArray, List.set_cons_succ, List.set_cons_zero]
              have HSY : Hid (RStep L rb me N v0 (.slice ao A.length cap) A w Y) := HS0.out.more (show Below wr.heap.size wr Y from (Below.drew (Below.refl _ _)).trans hbY)
              have HVY : Hid (RVw L rb me N (.slice ao A.length cap) A Y) := HSY.out.vw
              obtain ⟨e2, he2⟩ : ∃ e2 : Ent, e2 = { e with r := r } := ⟨_, rfl⟩
              have hr2 : e2.r = r := by rw [he2]
              have HVX : Hid (VAt Y b (off + q * 7) e2) := show VAt Y b (off + q * 7) e2 from by rw [he2]; exact (HVQ.out.keep ((show Below wr.heap.size wr Y from (Below.drew (Below.refl _ _)).trans hbY).block b HVQ.out.lt)).re r
              have HE2 : Hid (e2 = { e with r := r }) := he2
              have y2 : Y.cell? ⟨rb, 2, none⟩ = some (.slice ao A.length cap) := HVY.out.c2
              have HCK : Hid (∀ wa wb : World, Below wa.heap.size wa wb → (fun wq => wq.cell? ⟨rb, 2, none⟩ = some (.slice ao A.length cap) ∧ VAt wq b (off + q * 7) e2) wa → (fun wq => wq.cell? ⟨rb, 2, none⟩ = some (.slice ao A.length cap) ∧ VAt wq b (off + q * 7) e2) wb) := fun wa wb hb hh => ⟨cell_below hb hh.1, hh.2.keep (hb.block _ hh.2.lt)⟩
              have HNB : Hid (∀ hh : (Value.slice ao A.length cap).ownBlock = some b, False) := fun hh => by
                rcases HSY.out.at' b hh with h1 | h1
                · exact HBN.out.2.1 h1
                · have := HBN.out.2.2; omega
              clear hbY he2 HS0 HVQ HLS
              go_wp2_with fail
              rename_i K hK
              try rw [show ∀ a : Act, a.put none undef = a from fun _ => rfl]
              refine wp_region_mix (fun wq => wq.cell? ⟨rb, 2, none⟩ = some (.slice ao A.length cap) ∧ VAt wq b (off + q * 7) e2) (fun i => i == 11 || i == 12 || i == 15) 15 (by kernel_rfl) rfl (by kernel_rfl) (by kernel_rfl) (by kernel_rfl) ?_
              refine withFrP (N := 123) rfl ?_
              intro f0 F0 hff
              have ee0 : f0 0 = Value.pointer (some ⟨rb, 0, none⟩) := hff 0
              have ee1 : f0 1 = Value.int .i64 r := hff 1
              have ee2 : f0 2 = Value.slice (some ⟨b, off, none⟩) KK lcap := hff 2
              have ee12 : f0 12 = Value.int .i64 ((q : Nat) : Int) := hff 12
              clear hff
              have HCC : (fun wq => wq.cell? ⟨rb, 2, none⟩ = some (.slice ao A.length cap) ∧ VAt wq b (off + q * 7) e2) (({ Y with drawn := Y.drawn + 1 } : World)) := ⟨y2, HVX.out.keep rfl⟩
              have HC1 : (fun wq => wq.cell? ⟨rb, 2, none⟩ = some (.slice ao A.length cap) ∧ VAt wq b (off + q * 7) e2) ((({ Y with drawn := Y.drawn + 1 } : World)).alloc (.cells #[.int .i64 e2.r, .string ⟨e2.n.toArray⟩, .int .i64 e2.c, .int .i64 e2.rc, .int .i64 e2.v, .int .i64 e2.d, .int .i64 e2.u, .int .i64 e2.h] 150)) := HCK.out _ _ ((Below.refl _ _).alloc (Nat.le_refl _) _) HCC
              refine lyp F0 rfl HCC rfl (by omega) (wanted_none rfl) (v := Value.pointer (some ⟨rb, 0, none⟩)) (fun wr hwr => by simp only [execOp, (F0.eval 0 (by omega)).trans (show _ = Value.pointer (some ⟨rb, 0, none⟩) from by simp [upd, ee0, ee1, ee2, ee12])]; first | rfl | simp [go_sem]) fun F1 => ?_
              refine lyp F1 rfl HCC rfl (by omega) (wanted_none rfl) (v := Value.pointer (some ⟨rb, 0, none⟩)) (fun wr hwr => by simp only [execOp, (F1.eval 0 (by omega)).trans (show _ = Value.pointer (some ⟨rb, 0, none⟩) from by simp [upd, ee0, ee1, ee2, ee12])]; first | rfl | simp [go_sem]) fun F2 => ?_
              refine lyp F2 rfl HCC rfl (by omega) (wanted_none rfl) (v := Value.pointer (some ⟨rb, 0, none⟩)) (fun wr hwr => by simp only [execOp, (F2.eval 106 (by omega)).trans (show _ = Value.pointer (some ⟨rb, 0, none⟩) from by simp [upd, ee0, ee1, ee2, ee12])]; simp [go_sem]) fun F3 => ?_
              refine lyp F3 rfl HCC rfl (by omega) (wanted_none rfl) (v := Value.pointer (some ⟨rb, 2, none⟩)) (fun wr hwr => by simp only [execOp, (F3.eval 107 (by omega)).trans (show _ = Value.pointer (some ⟨rb, 0, none⟩) from by simp [upd, ee0, ee1, ee2, ee12])]; simp [go_sem]) fun F4 => ?_
              refine lyp F4 rfl HCC rfl (by omega) (wanted_none rfl) (v := Value.slice ao A.length cap) (fun wr hwr => by simp only [execOp, (F4.eval 108 (by omega)).trans (show _ = Value.pointer (some ⟨rb, 2, none⟩) from by simp [upd, ee0, ee1, ee2, ee12])]; simp [go_sem, hwr.1]) fun F5 => ?_
              refine lyp F5 rfl HCC rfl (by omega) (wanted_none rfl) (v := Value.int .i64 r) (fun wr hwr => by simp only [execOp, (F5.eval 1 (by omega)).trans (show _ = Value.int .i64 r from by simp [upd, ee0, ee1, ee2, ee12])]; first | rfl | simp [go_sem]) fun F6 => ?_
              refine lyp F6 rfl HCC rfl (by omega) (wanted_none rfl) (v := Value.slice (some ⟨b, off, none⟩) KK lcap) (fun wr hwr => by simp only [execOp, (F6.eval 2 (by omega)).trans (show _ = Value.slice (some ⟨b, off, none⟩) KK lcap from by simp [upd, ee0, ee1, ee2, ee12])]; first | rfl | simp [go_sem]) fun F7 => ?_
              refine lyp F7 rfl HCC rfl (by omega) (wanted_none rfl) (v := Value.int .i64 ((q : Nat) : Int)) (fun wr hwr => by simp only [execOp, (F7.eval 12 (by omega)).trans (show _ = Value.int .i64 ((q : Nat) : Int) from by simp [upd, ee0, ee1, ee2, ee12])]; first | rfl | simp [go_sem]) fun F8 => ?_
              refine lyp F8 rfl HCC rfl (by omega) (wanted_none rfl) (v := Value.pointer (some ⟨b, off + q * 7, none⟩)) (fun wr hwr => by simp only [execOp, (F8.eval 111 (by omega)).trans (show _ = Value.slice (some ⟨b, off, none⟩) KK lcap from by simp [upd, ee0, ee1, ee2, ee12]), (F8.eval 112 (by omega)).trans (show _ = Value.int .i64 ((q : Nat) : Int) from by simp [upd, ee0, ee1, ee2, ee12])]; simp only [Sem.run_bind, Sem.run_pure, Result.andThen_ok, idx_run 77 105 7 Tryz.underlying77 info46 wr b off KK lcap q hlt, Nat.zero_add, Nat.mul_one]; try rfl) fun F9 => ?_
              refine lyp F9 rfl HCC rfl (by omega) (wanted_none rfl) (v := Value.agg #[.string ⟨e2.n.toArray⟩, .int .i64 e2.c, .int .i64 e2.rc, .int .i64 e2.v, .int .i64 e2.d, .int .i64 e2.u, .int .i64 e2.h]) (fun wr hwr => by simp only [execOp, (F9.eval 113 (by omega)).trans (show _ = Value.pointer (some ⟨b, off + q * 7, none⟩) from by simp [upd, ee0, ee1, ee2, ee12])]; simp [go_sem, hwr.2.c0, hwr.2.c1, hwr.2.c2, hwr.2.c3, hwr.2.c4, hwr.2.c5, hwr.2.c6]) fun F10 => ?_
              refine lyp F10 rfl HCC rfl (by omega) (wanted_none rfl) (v := Value.agg #[.int .i64 e2.r, .string ⟨e2.n.toArray⟩, .int .i64 e2.c, .int .i64 e2.rc, .int .i64 e2.v, .int .i64 e2.d, .int .i64 e2.u, .int .i64 e2.h]) (fun wr hwr => by simp only [execOp, List.map_toArray, List.map_cons, List.map_nil, (F10.eval 110 (by omega)).trans (show _ = Value.int .i64 r from by simp [upd, ee0, ee1, ee2, ee12]), (F10.eval 114 (by omega)).trans (show _ = Value.agg #[.string ⟨e2.n.toArray⟩, .int .i64 e2.c, .int .i64 e2.rc, .int .i64 e2.v, .int .i64 e2.d, .int .i64 e2.u, .int .i64 e2.h] from by simp [upd, ee0, ee1, ee2, ee12])]; simp [go_sem, hr2]; try rfl) fun F11 => ?_
              refine lep F11 rfl HCC rfl (by omega) (wanted_none rfl) (v := Value.slice (some ⟨Y.heap.size, 0, none⟩) 1 1) (w1 := (({ Y with drawn := Y.drawn + 1 } : World)).alloc (.cells #[.int .i64 e2.r, .string ⟨e2.n.toArray⟩, .int .i64 e2.c, .int .i64 e2.rc, .int .i64 e2.v, .int .i64 e2.d, .int .i64 e2.u, .int .i64 e2.h] 150)) (by simp only [execOp, List.map_toArray, List.map_cons, List.map_nil, (F11.eval 115 (by omega)).trans (show _ = Value.agg #[.int .i64 e2.r, .string ⟨e2.n.toArray⟩, .int .i64 e2.c, .int .i64 e2.rc, .int .i64 e2.v, .int .i64 e2.d, .int .i64 e2.u, .int .i64 e2.h] from by simp [upd, ee0, ee1, ee2, ee12])]; simp [go_sem]) fun F12 => ?_
              obtain ⟨ao5, cap5, w5, hrun, hc5, hz5, hf5, hV5, hch5, hat5⟩ := (show RVw L rb me N (.slice ao A.length cap) A (({ Y with drawn := Y.drawn + 1 } : World)) from HVY.out.keep rfl (fun _ _ => rfl)).push HAL.out e2
              have HC5 : (fun wq => wq.cell? ⟨rb, 2, none⟩ = some (.slice ao A.length cap) ∧ VAt wq b (off + q * 7) e2) w5 := ⟨hz5, HVX.out.keep (hc5.block b HVX.out.lt (fun hh => HNB.out hh))⟩
              refine lep F12 rfl HC1 rfl (by omega) (wanted_none rfl) (v := Value.slice ao5 (A.length + 1) cap5) (w1 := w5) (by simp only [execOp, resolve, invoke, builtin, List.map_toArray, List.map_cons, List.map_nil, (F12.eval 109 (by omega)).trans (show _ = Value.slice ao A.length cap from by simp [upd, ee0, ee1, ee2, ee12]), (F12.eval 116 (by omega)).trans (show _ = Value.slice (some ⟨Y.heap.size, 0, none⟩) 1 1 from by simp [upd, ee0, ee1, ee2, ee12])]; simp only [Sem.run_bind, Sem.run_pure, Result.andThen_ok, show _ = _ from hrun _]; try rfl) fun F13 => ?_
              refine lyp F13 rfl HC5 rfl (by omega) (wanted_none rfl) (v := Value.pointer (some ⟨rb, 0, none⟩)) (fun wr hwr => by simp only [execOp, (F13.eval 105 (by omega)).trans (show _ = Value.pointer (some ⟨rb, 0, none⟩) from by simp [upd, ee0, ee1, ee2, ee12])]; simp [go_sem]) fun F14 => ?_
              refine lyp F14 rfl HC5 rfl (by omega) (wanted_none rfl) (v := Value.pointer (some ⟨rb, 2, none⟩)) (fun wr hwr => by simp only [execOp, (F14.eval 118 (by omega)).trans (show _ = Value.pointer (some ⟨rb, 0, none⟩) from by simp [upd, ee0, ee1, ee2, ee12])]; simp [go_sem]) fun F15 => ?_
              refine lst rfl HC5 rfl (wanted_none rfl) (w1 := w5.setCell ⟨rb, 2, none⟩ (.slice ao5 (A.length + 1) cap5)) (by simp only [execOp, (F15.eval 119 (by omega)).trans (show _ = Value.pointer (some ⟨rb, 2, none⟩) from by simp [upd, ee0, ee1, ee2, ee12]), (F15.eval 117 (by omega)).trans (show _ = Value.slice ao5 (A.length + 1) cap5 from by simp [upd, ee0, ee1, ee2, ee12])]; simp [go_sem, hf5, hz5]) ?_
              refine ⟨fun h => by omega, ?_⟩
              refine hK _ _ ?_
              clear F0 F1 F2 F3 F4 F5 F6 F7 F8 F9 F10 F11 F12 F13 F14 F15 ee0 ee1 ee2 ee12 HCC HC1 HC5 hz5 hf5 hrun hc5
              simp only [Act.put, List.setIfInBounds_toArray, List.set_cons_succ, List.set_cons_zero]
              have HFN : Hid (RStep L rb me N v0 (.slice ao5 (A.length + 1) cap5) (A ++ [e2]) w (w5.setCell ⟨rb, 2, none⟩ (.slice ao5 (A.length + 1) cap5))) := HSY.out.next hV5 ⟨hch5.os, hch5.tape, hch5.output, hch5.size, hch5.block⟩ hat5
              clear hV5 hch5 hat5
              have hw2 : IntKind.i64.wrap ((cn : Int) + 1) = (cn : Int) + 1 := by rw [IntKind.wrap_i64]; omega
              go_wp2_with fail
              go_roundw
              case rel => exact ⟨q + 1, _, by omega, by go_num, by rw [HTE.out]; go_num, by rw [HTE.out, ← HE2.out]; exact HFN.out⟩
              case measure => simp [intOf]; omega
            · have HTE : Hid (rtakeF r A0 (es.take (q + 1)) = (A, cn)) := show _ = _ from by rw [HTM.out, HTS.out, if_neg hvv]
              clear HTM HTS
              go_wp2_with fail
              rename_i K hK
              try rw [show ∀ a : Act, a.put none undef = a from fun _ => rfl]
              refine wp_region_mix (fun wq => VAt wq b (off + q * 7) e) (fun i => i == 12 || i == 99) 99 (by kernel_rfl) rfl (by kernel_rfl) (by kernel_rfl) (by kernel_rfl) ?_
              refine withFrP (N := 123) rfl ?_
              intro f0 F0 hff
              have ee0 : f0 0 = Value.pointer (some ⟨rb, 0, none⟩) := hff 0
              have ee1 : f0 1 = Value.int .i64 r := hff 1
              have ee2 : f0 2 = Value.slice (some ⟨b, off, none⟩) KK lcap := hff 2
              have ee12 : f0 12 = Value.int .i64 ((q : Nat) : Int) := hff 12
              clear hff
              have HCC : (fun wq => VAt wq b (off + q * 7) e) (({ wr with drawn := wr.drawn + 1 } : World)) := HVQ.out.keep rfl
              refine lyp F0 rfl HCC rfl (by omega) (wanted_none rfl) (v := Value.slice (some ⟨b, off, none⟩) KK lcap) (fun wr hwr => by simp only [execOp, (F0.eval 2 (by omega)).trans (show _ = Value.slice (some ⟨b, off, none⟩) KK lcap from by simp [upd, ee0, ee1, ee2, ee12])]; first | rfl | simp [go_sem]) fun F1 => ?_
              refine lyp F1 rfl HCC rfl (by omega) (wanted_none rfl) (v := Value.int .i64 ((q : Nat) : Int)) (fun wr hwr => by simp only [execOp, (F1.eval 12 (by omega)).trans (show _ = Value.int .i64 ((q : Nat) : Int) from by simp [upd, ee0, ee1, ee2, ee12])]; first | rfl | simp [go_sem]) fun F2 => ?_
              refine lyp F2 rfl HCC rfl (by omega) (wanted_none rfl) (v := Value.pointer (some ⟨b, off + q * 7, none⟩)) (fun wr hwr => by simp only [execOp, (F2.eval 90 (by omega)).trans (show _ = Value.slice (some ⟨b, off, none⟩) KK lcap from by simp [upd, ee0, ee1, ee2, ee12]), (F2.eval 91 (by omega)).trans (show _ = Value.int .i64 ((q : Nat) : Int) from by simp [upd, ee0, ee1, ee2, ee12])]; simp only [Sem.run_bind, Sem.run_pure, Result.andThen_ok, idx_run 77 105 7 Tryz.underlying77 info46 wr b off KK lcap q hlt]; try rfl) fun F3 => ?_
              refine lyp F3 rfl HCC rfl (by omega) (wanted_none rfl) (v := Value.pointer (some ⟨b, off + q * 7 + 3, none⟩)) (fun wr hwr => by simp only [execOp, (F3.eval 92 (by omega)).trans (show _ = Value.pointer (some ⟨b, off + q * 7, none⟩) from by simp [upd, ee0, ee1, ee2, ee12])]; simp [go_sem]) fun F4 => ?_
              refine lyp F4 rfl HCC rfl (by omega) (wanted_none rfl) (v := Value.int .i64 e.v) (fun wr hwr => by simp only [execOp, (F4.eval 93 (by omega)).trans (show _ = Value.pointer (some ⟨b, off + q * 7 + 3, none⟩) from by simp [upd, ee0, ee1, ee2, ee12])]; simp [go_sem, hwr.c3]) fun F5 => ?_
              refine lyp F5 rfl HCC rfl (by omega) (wanted_none rfl) (v := Value.pointer (some ⟨rb, 0, none⟩)) (fun wr hwr => by simp only [execOp, (F5.eval 0 (by omega)).trans (show _ = Value.pointer (some ⟨rb, 0, none⟩) from by simp [upd, ee0, ee1, ee2, ee12])]; first | rfl | simp [go_sem]) fun F6 => ?_
              refine lyp F6 rfl HCC rfl (by omega) (wanted_none rfl) (v := Value.int .i64 r) (fun wr hwr => by simp only [execOp, (F6.eval 1 (by omega)).trans (show _ = Value.int .i64 r from by simp [upd, ee0, ee1, ee2, ee12])]; first | rfl | simp [go_sem]) fun F7 => ?_
              refine lyp F7 rfl HCC rfl (by omega) (wanted_none rfl) (v := Value.slice (some ⟨b, off, none⟩) KK lcap) (fun wr hwr => by simp only [execOp, (F7.eval 2 (by omega)).trans (show _ = Value.slice (some ⟨b, off, none⟩) KK lcap from by simp [upd, ee0, ee1, ee2, ee12])]; first | rfl | simp [go_sem]) fun F8 => ?_
              refine lyp F8 rfl HCC rfl (by omega) (wanted_none rfl) (v := Value.int .i64 ((q : Nat) : Int)) (fun wr hwr => by simp only [execOp, (F8.eval 12 (by omega)).trans (show _ = Value.int .i64 ((q : Nat) : Int) from by simp [upd, ee0, ee1, ee2, ee12])]; first | rfl | simp [go_sem]) fun F9 => ?_
              refine lyp F9 rfl HCC rfl (by omega) (wanted_none rfl) (v := Value.pointer (some ⟨b, off + q * 7, none⟩)) (fun wr hwr => by simp only [execOp, (F9.eval 97 (by omega)).trans (show _ = Value.slice (some ⟨b, off, none⟩) KK lcap from by simp [upd, ee0, ee1, ee2, ee12]), (F9.eval 98 (by omega)).trans (show _ = Value.int .i64 ((q : Nat) : Int) from by simp [upd, ee0, ee1, ee2, ee12])]; simp only [Sem.run_bind, Sem.run_pure, Result.andThen_ok, idx_run 77 105 7 Tryz.underlying77 info46 wr b off KK lcap q hlt]; try rfl) fun F10 => ?_
              refine lyp F10 rfl HCC rfl (by omega) (wanted_none rfl) (v := Value.pointer (some ⟨b, off + q * 7, none⟩)) (fun wr hwr => by simp only [execOp, (F10.eval 99 (by omega)).trans (show _ = Value.pointer (some ⟨b, off + q * 7, none⟩) from by simp [upd, ee0, ee1, ee2, ee12])]; simp [go_sem]) fun F11 => ?_
              refine lyp F11 rfl HCC rfl (by omega) (wanted_none rfl) (v := Value.string ⟨e.n.toArray⟩) (fun wr hwr => by simp only [execOp, (F11.eval 100 (by omega)).trans (show _ = Value.pointer (some ⟨b, off + q * 7, none⟩) from by simp [upd, ee0, ee1, ee2, ee12])]; simp [go_sem, hwr.c0]) fun F12 => ?_
              refine lcp F12 rfl HCC rfl (by omega) (wanted_none rfl) (g := 76) (args := #[Value.pointer (some ⟨rb, 0, none⟩), Value.int .i64 r, Value.string ⟨e.n.toArray⟩]) (by simp only [execOp, resolve, invoke, List.map_toArray, List.map_cons, List.map_nil, (F12.eval 95 (by omega)).trans (show _ = Value.pointer (some ⟨rb, 0, none⟩) from by simp [upd, ee0, ee1, ee2, ee12]), (F12.eval 96 (by omega)).trans (show _ = Value.int .i64 r from by simp [upd, ee0, ee1, ee2, ee12]), (F12.eval 101 (by omega)).trans (show _ = Value.string ⟨e.n.toArray⟩ from by simp [upd, ee0, ee1, ee2, ee12])]; simp [go_sem, Act.eval]) (HLS.out (({ wr with drawn := wr.drawn + 1 } : World)) (HS0.out.vw.keep rfl (fun _ _ => rfl))) ?_
              rintro e9 Y ⟨rfl, hbY⟩
              refine ⟨_, rfl, fun F13 => ?_⟩
              have HC2 : (fun wq => VAt wq b (off + q * 7) e) Y := HCC.keep (hbY.block _ HCC.lt)
              refine lyp F13 rfl HC2 rfl (by omega) (wanted_none rfl) (v := Value.int .i64 x0.v) (fun wr hwr => by simp only [execOp, (F13.eval 102 (by omega)).trans (show _ = Value.agg #[.string ⟨x0.n.toArray⟩, .int .i64 x0.c, .int .i64 x0.rc, .int .i64 x0.v, .int .i64 x0.d, .int .i64 x0.u, .int .i64 x0.h] from by simp [upd, ee0, ee1, ee2, ee12])]; simp [go_sem, show (Instr.field 105 (.agg #[.string ⟨x0.n.toArray⟩, .int .i64 x0.c, .int .i64 x0.rc, .int .i64 x0.v, .int .i64 x0.d, .int .i64 x0.u, .int .i64 x0.h]) 3).run Tryz.prog wr = .ok (.int .i64 x0.v) wr from fld3 x0 wr]) fun F14 => ?_
              refine lyp F14 rfl HC2 rfl (by omega) (wanted_none rfl) (v := Value.bool false) (fun wr hwr => by simp only [execOp, (F14.eval 94 (by omega)).trans (show _ = Value.int .i64 e.v from by simp [upd, ee0, ee1, ee2, ee12]), (F14.eval 103 (by omega)).trans (show _ = Value.int .i64 x0.v from by simp [upd, ee0, ee1, ee2, ee12])]; simp [go_sem, Act.eval, hvv]) fun F15 => ?_
              refine ⟨fun _ => HC2, ?_⟩
              refine hK _ _ ?_
              clear F0 F1 F2 F3 F4 F5 F6 F7 F8 F9 F10 F11 F12 F13 F14 F15 ee0 ee1 ee2 ee12 HCC HC2
              simp only [Act.put, List.setIfInBounds_toArray, List.set_cons_succ, List.set_cons_zero]
              have HSY : Hid (RStep L rb me N v0 (.slice ao A.length cap) A w Y) := HS0.out.more (show Below wr.heap.size wr Y from (Below.drew (Below.refl _ _)).trans hbY)
              clear hbY HS0 HVQ HLS
              go_wp2_with fail
              go_roundw
              case rel => exact ⟨q + 1, _, by omega, by go_num, by rw [HTE.out], by rw [HTE.out]; exact HSY.out⟩
              case measure => simp [intOf]; omega
          · have hqk : es.take q = es := List.take_of_length_le (by rw [HL.out]; omega)
            rw [hqk] at hst ⊢
            have HS0 : Hid (RStep L rb me N v0 v (rtakeF r A0 es).1 w wr) := hst
            clear hst hqk
            go_wp2_with fail
            go_ret2
            exact ⟨by rw [HCD.out, HNX.out]; rfl, by rw [HNX.out]; exact HS0.out.post⟩
end Go.Proofs.YtnphkmdanicemaaGreatDoor
