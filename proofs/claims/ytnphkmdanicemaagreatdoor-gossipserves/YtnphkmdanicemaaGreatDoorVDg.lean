import Derived.Test.YtnphkmdanicemaaGreatDoorVRt
namespace Go.Proofs.YtnphkmdanicemaaGreatDoor
open Go.RowKit Go.PlainAid
set_option linter.unusedVariables false
set_option linter.unusedSimpArgs false
/-- A view that lies at a place. -/
structure VAt (w : World) (b o : Nat) (e : Ent) : Prop where
  c0 : w.cell? ⟨b, o, none⟩ = some (.string ⟨e.n.toArray⟩)
  c1 : w.cell? ⟨b, o + 1, none⟩ = some (.int .i64 e.c)
  c2 : w.cell? ⟨b, o + 2, none⟩ = some (.int .i64 e.rc)
  c3 : w.cell? ⟨b, o + 3, none⟩ = some (.int .i64 e.v)
  c4 : w.cell? ⟨b, o + 4, none⟩ = some (.int .i64 e.d)
  c5 : w.cell? ⟨b, o + 5, none⟩ = some (.int .i64 e.u)
  c6 : w.cell? ⟨b, o + 6, none⟩ = some (.int .i64 e.h)
theorem VAt.keep {w w' : World} {b o : Nat} {e : Ent} (h : VAt w b o e) (hb : w'.heap[b]? = w.heap[b]?) : VAt w' b o e :=
  ⟨(World.cell?_of_block (w := w) hb).trans h.c0, (World.cell?_of_block (w := w) hb).trans h.c1, (World.cell?_of_block (w := w) hb).trans h.c2, (World.cell?_of_block (w := w) hb).trans h.c3, (World.cell?_of_block (w := w) hb).trans h.c4, (World.cell?_of_block (w := w) hb).trans h.c5, (World.cell?_of_block (w := w) hb).trans h.c6⟩
theorem VAt.lt {w : World} {b o : Nat} {e : Ent} (h : VAt w b o e) : b < w.heap.size := World.block_lt_of_cell? w _ h.c0
/-- Views that a slice holds. -/
def FromV (w : World) (ao : Option Addr) (es : List Ent) : Prop := 0 < es.length → ∃ b off, ao = some ⟨b, off, none⟩ ∧ ∀ i e, es[i]? = some e → VAt w b (off + i * 7) e
theorem FromV.keep {w w' : World} {ao : Option Addr} {es : List Ent} (h : FromV w ao es) (hk : ∀ b off, ao = some ⟨b, off, none⟩ → w'.heap[b]? = w.heap[b]?) : FromV w' ao es := by
  intro h0
  obtain ⟨b, off, rfl, hc⟩ := h h0
  exact ⟨b, off, rfl, fun i e he => (hc i e he).keep (hk b off rfl)⟩
theorem FromV.lt {w : World} {b off : Nat} {es : List Ent} (h : FromV w (some ⟨b, off, none⟩) es) (h0 : 0 < es.length) : b < w.heap.size := by
  obtain ⟨b', off', e, hc⟩ := h h0
  cases e
  exact (hc 0 _ (List.getElem?_eq_getElem h0)).lt
theorem FromV.all {w w' : World} {ao : Option Addr} {es : List Ent} (h : FromV w ao es) (hb : Below w.heap.size w w') : FromV w' ao es := by
  intro h0
  have h' := h
  obtain ⟨b, off, rfl, hc⟩ := h h0
  exact ⟨b, off, rfl, fun i e he => (hc i e he).keep (hb.block b (h'.lt h0))⟩
def nlt (a b : List UInt8) : Bool := Op.bytesLess a b
theorem nlt_tri : ∀ a b : List UInt8, nlt a b = !(nlt b a || b == a)
  | [], [] => rfl
  | [], _ :: _ => rfl
  | _ :: _, [] => rfl
  | x :: xs, y :: ys => by
    have ih := nlt_tri xs ys
    unfold nlt at *
    simp only [Op.bytesLess, ih]
    by_cases h1 : x < y
    · have h2 : ¬ y < x := by simp only [UInt8.lt_iff_toNat_lt] at *; omega
      have h3 : y ≠ x := fun e => by subst e; exact h2 h1
      simp [h1, h2, h3]
    · by_cases h2 : y < x
      · have h3 : x ≠ y := fun e => by subst e; exact h1 h2
        simp [h1, h2, h3]
      · have h3 : x = y := by apply UInt8.toNat_inj.1; simp only [UInt8.lt_iff_toNat_lt] at *; omega
        subst h3
        simp [h1]
/-- A digest: all are right, and the names rise. -/
def Dig (es : List Ent) : Prop := (∀ e ∈ es, e.right = true) ∧ ∀ i a b, es[i]? = some a → es[i + 1]? = some b → nlt a.n b.n = true
def dgB : List Ent → Bool
  | [] => true
  | [a] => a.right
  | a :: b :: t => a.right && nlt a.n b.n && dgB (b :: t)
theorem dig_cons {a b : Ent} {t : List Ent} : Dig (a :: b :: t) ↔ a.right = true ∧ nlt a.n b.n = true ∧ Dig (b :: t) := by
  constructor
  · intro h
    exact ⟨h.1 a (by simp), h.2 0 a b rfl rfl, fun e he => h.1 e (List.mem_cons_of_mem _ he), fun i x y hx hy => h.2 (i + 1) x y (by simpa using hx) (by simpa using hy)⟩
  · rintro ⟨h1, h2, h3, h4⟩
    refine ⟨fun e he => ?_, fun i x y hx hy => ?_⟩
    · rcases List.mem_cons.1 he with rfl | he
      · exact h1
      · exact h3 e he
    · cases i with
      | zero => simp at hx hy; subst hx; subst hy; exact h2
      | succ i => exact h4 i x y (by simpa using hx) (by simpa using hy)
theorem dgB_iff : ∀ {es : List Ent}, dgB es = true ↔ Dig es
  | [] => by simp [dgB, Dig]
  | [a] => by simp [dgB, Dig]
  | a :: b :: t => by
    rw [dig_cons, ← dgB_iff (es := b :: t)]
    simp [dgB, and_assoc]
theorem dgB_not {es : List Ent} (h : ¬ Dig es) : dgB es = false := by
  cases hb : dgB es
  · rfl
  · exact absurd (dgB_iff.1 hb) h
theorem box_cells {w : World} {bx : Nat} {e : Ent} (h : Blk w bx #[.string ⟨e.n.toArray⟩, .int .i64 e.c, .int .i64 e.rc, .int .i64 e.v, .int .i64 e.d, .int .i64 e.u, .int .i64 e.h] 105) : VAt w bx 0 e :=
  ⟨h.cell 0, h.cell 1, h.cell 2, h.cell 3, h.cell 4, h.cell 5, h.cell 6⟩
theorem dig_more {es : List Ent} {q : Nat} {e : Ent} (h : Dig (es.take q)) (he : es[q]? = some e) (hr : e.right = true) (hp : ∀ p, 0 < q → es[q - 1]? = some p → nlt p.n e.n = true) : Dig (es.take (q + 1)) := by
  have hq := (List.getElem?_eq_some_iff.1 he).1
  refine ⟨fun x hx => ?_, fun i a b ha hb => ?_⟩
  · rw [List.take_add_one, he] at hx
    rcases List.mem_append.1 hx with h1 | h1
    · exact h.1 x h1
    · simp at h1; subst h1; exact hr
  · rw [List.getElem?_take] at ha hb
    by_cases h1 : i + 1 < q
    · exact h.2 i a b (by rw [List.getElem?_take, if_pos (by omega)]; split at ha; exact ha; cases ha) (by rw [List.getElem?_take, if_pos h1]; split at hb; exact hb; cases hb)
    · split at hb
      · have h2 : i + 1 = q := by omega
        rw [h2, he] at hb
        cases hb
        split at ha
        · exact hp a (by omega) (by rw [← h2]; exact ha)
        · cases ha
      · cases hb
theorem dig_not {es : List Ent} {q : Nat} {e : Ent} (he : es[q]? = some e) (hr : e.right = false) : ¬ Dig es := fun h => by
  have := h.1 e (List.mem_of_getElem? he)
  rw [hr] at this
  cases this
theorem dig_not2 {es : List Ent} {q : Nat} {e p : Ent} (he : es[q]? = some e) (hq : 0 < q) (hp : es[q - 1]? = some p) (hn : nlt p.n e.n = false) : ¬ Dig es := fun h => by
  have := h.2 (q - 1) p e hp (by rw [show q - 1 + 1 = q by omega]; exact he)
  rw [hn] at this
  cases this
set_option maxRecDepth 100000 in
set_option maxHeartbeats 6400000 in
theorem rightDigest_any (ao : Option Addr) (M cap : Nat) (es : List Ent) (W : World) (hl : es.length = M) (hM : M ≤ 1000) (hf : FromV W ao es) (hs : ∀ e ∈ es, e.sane) :
    Calls Tryz.prog 53 #[.slice ao M cap] W fun e w' => e = .returned (.bool (dgB es)) ∧ Below W.heap.size W w' := by
  have HL : Hid _ := hl
  have HF : Hid _ := hf
  have HS : Hid _ := hs
  clear hl hf hs
  go_enter Tryz.func53, Tryz.ntmps53
  go_wp2_with fail
  go_loopw [7] (fun i wr => ∃ q : Nat, q ≤ M ∧ i = .int .i64 q ∧ Dig (es.take q) ∧ Below W.heap.size W wr) (fun i _ => M - (intOf i).toNat)
  case atStart => exact ⟨0, Nat.zero_le _, rfl, ⟨by simp, by simp⟩, Below.refl _ _⟩
  case round =>
    obtain ⟨q, hq, rfl, hpre, hbel⟩ := hrel
    by_cases hlt : q < M
    · have HP : Hid (Dig (es.take q)) := hpre
      obtain ⟨e, he⟩ : ∃ e, es[q]? = some e := ⟨es[q]'(by rw [HL.out]; exact hlt), List.getElem?_eq_getElem _⟩
      have hse := HS.out e (List.mem_of_getElem? he)
      obtain ⟨b, off, rfl, hc⟩ := HF.out (by rw [HL.out]; omega)
      have hbs : b < W.heap.size := (hc q e he).lt
      obtain ⟨d0, d1, d2, d3, d4, d5, d6⟩ := (hc q e he).keep (hbel.block b hbs)
      have hprev : ∀ p, 0 < q → es[q - 1]? = some p → wr.cell? ⟨b, off + (q - 1) * 7, none⟩ = some (.string ⟨p.n.toArray⟩) := fun p _ hp => ((hc (q - 1) p hp).keep (hbel.block b hbs)).c0
      have HE : Hid _ := he
      have HB : Hid _ := hbel
      have HPR : Hid _ := hprev
      clear he hc hpre hbel hprev
      obtain ⟨er, n, c, rc, v, d, u, h⟩ := e
      simp only at d0 d1 d2 d3 d4 d5 d6
      have hBx := view_box ⟨er, n, c, rc, v, d, u, h⟩ wr
      have hgr : Below wr.heap.size wr (wr.alloc (.cells #[.string ⟨n.toArray⟩, .int .i64 c, .int .i64 rc, .int .i64 v, .int .i64 d, .int .i64 u, .int .i64 h] 105)) := (Below.refl _ _).alloc (Nat.le_refl _) _
      simp only at hBx
      have HBX : Hid _ := hBx
      have HG : Hid _ := hgr
      clear hBx hgr
      go_wp2_with fail
      have HX : Hid (Below W.heap.size W (wr.alloc (.cells #[.string ⟨n.toArray⟩, .int .i64 c, .int .i64 rc, .int .i64 v, .int .i64 d, .int .i64 u, .int .i64 h] 105))) := HB.out.trans (HG.out.mono HB.out.size)
      have HXC : Hid (∀ p, 0 < q → es[q - 1]? = some p → (wr.alloc (.cells #[.string ⟨n.toArray⟩, .int .i64 c, .int .i64 rc, .int .i64 v, .int .i64 d, .int .i64 u, .int .i64 h] 105)).cell? ⟨b, off + (q - 1) * 7, none⟩ = some (.string ⟨p.n.toArray⟩)) := fun p h0 hp => (HG.out.cell (p := ⟨b, off + (q - 1) * 7, none⟩) (World.block_lt_of_cell? wr _ (HPR.out p h0 hp))).trans (HPR.out p h0 hp)
      have HBX2 := HBX.out
      clear HBX HG HPR d0 d1 d2 d3 d4 d5 d6
      generalize wr.alloc (.cells #[.string ⟨n.toArray⟩, .int .i64 c, .int .i64 rc, .int .i64 v, .int .i64 d, .int .i64 u, .int .i64 h] 105) = X at *
      generalize wr.heap.size = bx at *
      have HV : VAt X bx 0 ⟨er, n, c, rc, v, d, u, h⟩ := box_cells (e := ⟨er, n, c, rc, v, d, u, h⟩) HBX2
      clear HBX2
      have HRA := fun w => right_any ⟨er, n, c, rc, v, d, u, h⟩ w hse
      by_cases hrt : Ent.right ⟨er, n, c, rc, v, d, u, h⟩ = true
      · by_cases hq0 : 0 < q
        · obtain ⟨p, hp⟩ : ∃ p, es[q - 1]? = some p := ⟨es[q - 1]'(by rw [HL.out]; omega), List.getElem?_eq_getElem _⟩
          have HPC := HXC.out p hq0 hp
          have hq1 : q - 1 < M := by omega
          have hqw : IntKind.i64.wrap ((q : Int) - 1) = ((q - 1 : Nat) : Int) := by rw [IntKind.wrap_i64]; omega
          have HPP : Hid _ := hp
          have HRT := hrt
          clear hp hrt
          cases hnl : nlt p.n n with
          | true =>
            have HLE : (Op.bytesLess n p.n || n == p.n) = false := by
              have := nlt_tri p.n n
              rw [hnl] at this
              simpa [nlt] using this.symm
            rename_i K hK
            try rw [show ∀ a : Act, a.put none undef = a from fun _ => rfl]
            refine wp_region_mix (fun wq => Below X.heap.size X wq) (fun i => i == 1 || i == 99) 99 (by kernel_rfl) rfl (by kernel_rfl) (by kernel_rfl) (by kernel_rfl) ?_
            refine withFrP (N := 31) rfl ?_
            intro f0 F0 hff
            have e0 : f0 0 = Value.slice (some ⟨b, off, none⟩) M cap := hff 0
            have e3 : f0 3 = Value.int .i64 (q : Int) := hff 3
            have e4 : f0 4 = Value.pointer (some ⟨bx, 0, none⟩) := hff 4
            clear hff
            have HCC : (fun wq => Below X.heap.size X wq) (({ X with drawn := X.drawn + 1 } : World)) := (Below.drew (Below.refl X.heap.size X))
            have VB : ∀ wr, Below X.heap.size X wr → VAt wr bx 0 ⟨er, n, c, rc, v, d, u, h⟩ := fun wr hw => HV.keep (hw.block bx HV.lt)
            have VP : ∀ wr, Below X.heap.size X wr → wr.cell? ⟨b, off + (q - 1) * 7, none⟩ = some (.string ⟨p.n.toArray⟩) := fun wr hw => (hw.cell (p := ⟨b, off + (q - 1) * 7, none⟩) (World.block_lt_of_cell? X _ HPC)).trans HPC
            refine lyp F0 rfl HCC rfl (by omega) (wanted_none rfl) (v := Value.agg #[.string ⟨n.toArray⟩, .int .i64 c, .int .i64 rc, .int .i64 v, .int .i64 d, .int .i64 u, .int .i64 h]) (fun wr hwr => by simp only [execOp, (F0.eval 4 (by omega)).trans (show _ = Value.pointer (some ⟨bx, 0, none⟩) from by simp [upd, e0, e3, e4])]; simp [go_sem, (VB wr hwr).c0, (VB wr hwr).c1, (VB wr hwr).c2, (VB wr hwr).c3, (VB wr hwr).c4, (VB wr hwr).c5, (VB wr hwr).c6]) fun F1 => ?_
            refine lcp F1 rfl HCC rfl (by omega) (wanted_none rfl) (g := 47) (args := #[Value.agg #[.string ⟨n.toArray⟩, .int .i64 c, .int .i64 rc, .int .i64 v, .int .i64 d, .int .i64 u, .int .i64 h]]) (by simp only [execOp, resolve, invoke, List.map_toArray, List.map_cons, List.map_nil, (F1.eval 12 (by omega)).trans (show _ = Value.agg #[.string ⟨n.toArray⟩, .int .i64 c, .int .i64 rc, .int .i64 v, .int .i64 d, .int .i64 u, .int .i64 h] from by simp [upd, e0, e3, e4])]; simp [go_sem, Act.eval]) (HRA ({ X with drawn := X.drawn + 1 } : World)) ?_
            rintro e w2 ⟨rfl, hb2⟩
            rw [HRT]
            refine ⟨_, rfl, fun F2 => ?_⟩
            have HC5 : (fun wq => Below X.heap.size X wq) w2 := HCC.trans hb2
            refine lyp F2 rfl HC5 rfl (by omega) (wanted_none rfl) (v := Value.bool false) (fun wr hwr => by simp only [execOp, (F2.eval 13 (by omega)).trans (show _ = Value.bool true from by simp [upd, e0, e3, e4])]; simp [go_sem, Act.eval]) fun F3 => ?_
            refine lyp F3 rfl HC5 rfl (by omega) (wanted_none rfl) (v := Value.bool false) (fun wr hwr => by simp only [execOp, (F3.eval 14 (by omega)).trans (show _ = Value.bool false from by simp [upd, e0, e3, e4])]; first | rfl | simp [go_sem]) fun F4 => ?_
            refine lyp F4 rfl HC5 rfl (by omega) (want_yes F4 rfl (e := 15) rfl (by omega) (show _ = Value.bool false from by simp [upd, e0, e3, e4])) (v := Value.int .i64 (q : Int)) (fun wr hwr => by simp only [execOp, (F4.eval 3 (by omega)).trans (show _ = Value.int .i64 (q : Int) from by simp [upd, e0, e3, e4])]; first | rfl | simp [go_sem]) fun F5 => ?_
            refine lyp F5 rfl HC5 rfl (by omega) (want_yes F5 rfl (e := 15) rfl (by omega) (show _ = Value.bool false from by simp [upd, e0, e3, e4])) (v := Value.bool true) (fun wr hwr => by simp only [execOp, (F5.eval 16 (by omega)).trans (show _ = Value.int .i64 (q : Int) from by simp [upd, e0, e3, e4])]; simp [go_sem, Act.eval, hq0]) fun F6 => ?_
            refine lyp F6 rfl HC5 rfl (by omega) (want_yes F6 rfl (e := 15) rfl (by omega) (show _ = Value.bool false from by simp [upd, e0, e3, e4])) (v := Value.bool true) (fun wr hwr => by simp only [execOp, (F6.eval 17 (by omega)).trans (show _ = Value.bool true from by simp [upd, e0, e3, e4])]; first | rfl | simp [go_sem]) fun F7 => ?_
            refine lyp F7 rfl HC5 rfl (by omega) (want_yes F7 rfl (e := 18) rfl (by omega) (show _ = Value.bool true from by simp [upd, e0, e3, e4])) (v := Value.pointer (some ⟨bx, 0, none⟩)) (fun wr hwr => by simp only [execOp, (F7.eval 4 (by omega)).trans (show _ = Value.pointer (some ⟨bx, 0, none⟩) from by simp [upd, e0, e3, e4])]; simp [go_sem]) fun F8 => ?_
            refine lyp F8 rfl HC5 rfl (by omega) (want_yes F8 rfl (e := 18) rfl (by omega) (show _ = Value.bool true from by simp [upd, e0, e3, e4])) (v := Value.string ⟨n.toArray⟩) (fun wr hwr => by simp only [execOp, (F8.eval 19 (by omega)).trans (show _ = Value.pointer (some ⟨bx, 0, none⟩) from by simp [upd, e0, e3, e4])]; simp [go_sem, (VB wr hwr).c0]) fun F9 => ?_
            refine lyp F9 rfl HC5 rfl (by omega) (want_yes F9 rfl (e := 18) rfl (by omega) (show _ = Value.bool true from by simp [upd, e0, e3, e4])) (v := Value.slice (some ⟨b, off, none⟩) M cap) (fun wr hwr => by simp only [execOp, (F9.eval 0 (by omega)).trans (show _ = Value.slice (some ⟨b, off, none⟩) M cap from by simp [upd, e0, e3, e4])]; first | rfl | simp [go_sem]) fun F10 => ?_
            refine lyp F10 rfl HC5 rfl (by omega) (want_yes F10 rfl (e := 18) rfl (by omega) (show _ = Value.bool true from by simp [upd, e0, e3, e4])) (v := Value.int .i64 (q : Int)) (fun wr hwr => by simp only [execOp, (F10.eval 3 (by omega)).trans (show _ = Value.int .i64 (q : Int) from by simp [upd, e0, e3, e4])]; first | rfl | simp [go_sem]) fun F11 => ?_
            refine lyp F11 rfl HC5 rfl (by omega) (want_yes F11 rfl (e := 18) rfl (by omega) (show _ = Value.bool true from by simp [upd, e0, e3, e4])) (v := Value.int .i64 ((q - 1 : Nat) : Int)) (fun wr hwr => by simp only [execOp, (F11.eval 22 (by omega)).trans (show _ = Value.int .i64 (q : Int) from by simp [upd, e0, e3, e4])]; simp [go_sem, Act.eval, hqw]) fun F12 => ?_
            refine lyp F12 rfl HC5 rfl (by omega) (want_yes F12 rfl (e := 18) rfl (by omega) (show _ = Value.bool true from by simp [upd, e0, e3, e4])) (v := Value.pointer (some ⟨b, off + (q - 1) * 7, none⟩)) (fun wr hwr => by simp only [execOp, (F12.eval 21 (by omega)).trans (show _ = Value.slice (some ⟨b, off, none⟩) M cap from by simp [upd, e0, e3, e4]), (F12.eval 23 (by omega)).trans (show _ = Value.int .i64 ((q - 1 : Nat) : Int) from by simp [upd, e0, e3, e4])]; simp [go_sem, hq1]) fun F13 => ?_
            refine lyp F13 rfl HC5 rfl (by omega) (want_yes F13 rfl (e := 18) rfl (by omega) (show _ = Value.bool true from by simp [upd, e0, e3, e4])) (v := Value.pointer (some ⟨b, off + (q - 1) * 7, none⟩)) (fun wr hwr => by simp only [execOp, (F13.eval 24 (by omega)).trans (show _ = Value.pointer (some ⟨b, off + (q - 1) * 7, none⟩) from by simp [upd, e0, e3, e4])]; simp [go_sem]) fun F14 => ?_
            refine lyp F14 rfl HC5 rfl (by omega) (want_yes F14 rfl (e := 18) rfl (by omega) (show _ = Value.bool true from by simp [upd, e0, e3, e4])) (v := Value.string ⟨p.n.toArray⟩) (fun wr hwr => by simp only [execOp, (F14.eval 25 (by omega)).trans (show _ = Value.pointer (some ⟨b, off + (q - 1) * 7, none⟩) from by simp [upd, e0, e3, e4])]; simp [go_sem, VP wr hwr]) fun F15 => ?_
            refine lyp F15 rfl HC5 rfl (by omega) (want_yes F15 rfl (e := 18) rfl (by omega) (show _ = Value.bool true from by simp [upd, e0, e3, e4])) (v := Value.bool false) (fun wr hwr => by simp only [execOp, (F15.eval 20 (by omega)).trans (show _ = Value.string ⟨n.toArray⟩ from by simp [upd, e0, e3, e4]), (F15.eval 26 (by omega)).trans (show _ = Value.string ⟨p.n.toArray⟩ from by simp [upd, e0, e3, e4])]; simp [go_sem, Act.eval, HLE]) fun F16 => ?_
            refine lyp F16 rfl HC5 rfl (by omega) (want_yes F16 rfl (e := 15) rfl (by omega) (show _ = Value.bool false from by simp [upd, e0, e3, e4])) (v := Value.bool false) (fun wr hwr => by simp only [execOp, (F16.eval 18 (by omega)).trans (show _ = Value.bool true from by simp [upd, e0, e3, e4]), (F16.eval 27 (by omega)).trans (show _ = Value.bool false from by simp [upd, e0, e3, e4])]; simp [go_sem, Act.eval]) fun F17 => ?_
            refine lyp F17 rfl HC5 rfl (by omega) (wanted_none rfl) (v := Value.bool false) (fun wr hwr => by simp only [execOp, (F17.eval 15 (by omega)).trans (show _ = Value.bool false from by simp [upd, e0, e3, e4]), (F17.eval 28 (by omega)).trans (show _ = Value.bool false from by simp [upd, e0, e3, e4])]; simp [go_sem, Act.eval]) fun F18 => ?_
            refine ⟨fun _ => HC5, ?_⟩
            refine hK _ _ ?_
            clear F0 F1 F2 F3 F4 F5 F6 F7 F8 F9 F10 F11 F12 F13 F14 F15 F16 F17 F18 e0 e3 e4 HCC VB VP
            simp only [Act.put, List.setIfInBounds_toArray, List.set_cons_succ, List.set_cons_zero]
            have HZ : Hid (Below W.heap.size W w2) := HX.out.drew.trans (hb2.mono HX.out.size)
            have HN : Hid (Dig (es.take (q + 1))) := dig_more HP.out HE.out HRT (fun p' _ hp' => by rw [HPP.out] at hp'; cases hp'; exact hnl)
            clear HRA HRT hnl HLE HPC hqw hb2
            go_wp2_with fail
            go_roundw
            case rel => exact ⟨q + 1, by omega, by go_num, HN.out, HZ.out⟩
            case measure => simp [intOf]; omega
          | false =>
            have HLE : (Op.bytesLess n p.n || n == p.n) = true := by
              have := nlt_tri p.n n
              rw [hnl] at this
              cases hh : (Op.bytesLess n p.n || n == p.n)
              · unfold nlt at this; rw [hh] at this; cases this
              · rfl
            rename_i K hK
            try rw [show ∀ a : Act, a.put none undef = a from fun _ => rfl]
            refine wp_region_mix (fun wq => Below X.heap.size X wq) (fun i => i == 1 || i == 99) 99 (by kernel_rfl) rfl (by kernel_rfl) (by kernel_rfl) (by kernel_rfl) ?_
            refine withFrP (N := 31) rfl ?_
            intro f0 F0 hff
            have e0 : f0 0 = Value.slice (some ⟨b, off, none⟩) M cap := hff 0
            have e3 : f0 3 = Value.int .i64 (q : Int) := hff 3
            have e4 : f0 4 = Value.pointer (some ⟨bx, 0, none⟩) := hff 4
            clear hff
            have HCC : (fun wq => Below X.heap.size X wq) (({ X with drawn := X.drawn + 1 } : World)) := (Below.drew (Below.refl X.heap.size X))
            have VB : ∀ wr, Below X.heap.size X wr → VAt wr bx 0 ⟨er, n, c, rc, v, d, u, h⟩ := fun wr hw => HV.keep (hw.block bx HV.lt)
            have VP : ∀ wr, Below X.heap.size X wr → wr.cell? ⟨b, off + (q - 1) * 7, none⟩ = some (.string ⟨p.n.toArray⟩) := fun wr hw => (hw.cell (p := ⟨b, off + (q - 1) * 7, none⟩) (World.block_lt_of_cell? X _ HPC)).trans HPC
            refine lyp F0 rfl HCC rfl (by omega) (wanted_none rfl) (v := Value.agg #[.string ⟨n.toArray⟩, .int .i64 c, .int .i64 rc, .int .i64 v, .int .i64 d, .int .i64 u, .int .i64 h]) (fun wr hwr => by simp only [execOp, (F0.eval 4 (by omega)).trans (show _ = Value.pointer (some ⟨bx, 0, none⟩) from by simp [upd, e0, e3, e4])]; simp [go_sem, (VB wr hwr).c0, (VB wr hwr).c1, (VB wr hwr).c2, (VB wr hwr).c3, (VB wr hwr).c4, (VB wr hwr).c5, (VB wr hwr).c6]) fun F1 => ?_
            refine lcp F1 rfl HCC rfl (by omega) (wanted_none rfl) (g := 47) (args := #[Value.agg #[.string ⟨n.toArray⟩, .int .i64 c, .int .i64 rc, .int .i64 v, .int .i64 d, .int .i64 u, .int .i64 h]]) (by simp only [execOp, resolve, invoke, List.map_toArray, List.map_cons, List.map_nil, (F1.eval 12 (by omega)).trans (show _ = Value.agg #[.string ⟨n.toArray⟩, .int .i64 c, .int .i64 rc, .int .i64 v, .int .i64 d, .int .i64 u, .int .i64 h] from by simp [upd, e0, e3, e4])]; simp [go_sem, Act.eval]) (HRA ({ X with drawn := X.drawn + 1 } : World)) ?_
            rintro e w2 ⟨rfl, hb2⟩
            rw [HRT]
            refine ⟨_, rfl, fun F2 => ?_⟩
            have HC5 : (fun wq => Below X.heap.size X wq) w2 := HCC.trans hb2
            refine lyp F2 rfl HC5 rfl (by omega) (wanted_none rfl) (v := Value.bool false) (fun wr hwr => by simp only [execOp, (F2.eval 13 (by omega)).trans (show _ = Value.bool true from by simp [upd, e0, e3, e4])]; simp [go_sem, Act.eval]) fun F3 => ?_
            refine lyp F3 rfl HC5 rfl (by omega) (wanted_none rfl) (v := Value.bool false) (fun wr hwr => by simp only [execOp, (F3.eval 14 (by omega)).trans (show _ = Value.bool false from by simp [upd, e0, e3, e4])]; first | rfl | simp [go_sem]) fun F4 => ?_
            refine lyp F4 rfl HC5 rfl (by omega) (want_yes F4 rfl (e := 15) rfl (by omega) (show _ = Value.bool false from by simp [upd, e0, e3, e4])) (v := Value.int .i64 (q : Int)) (fun wr hwr => by simp only [execOp, (F4.eval 3 (by omega)).trans (show _ = Value.int .i64 (q : Int) from by simp [upd, e0, e3, e4])]; first | rfl | simp [go_sem]) fun F5 => ?_
            refine lyp F5 rfl HC5 rfl (by omega) (want_yes F5 rfl (e := 15) rfl (by omega) (show _ = Value.bool false from by simp [upd, e0, e3, e4])) (v := Value.bool true) (fun wr hwr => by simp only [execOp, (F5.eval 16 (by omega)).trans (show _ = Value.int .i64 (q : Int) from by simp [upd, e0, e3, e4])]; simp [go_sem, Act.eval, hq0]) fun F6 => ?_
            refine lyp F6 rfl HC5 rfl (by omega) (want_yes F6 rfl (e := 15) rfl (by omega) (show _ = Value.bool false from by simp [upd, e0, e3, e4])) (v := Value.bool true) (fun wr hwr => by simp only [execOp, (F6.eval 17 (by omega)).trans (show _ = Value.bool true from by simp [upd, e0, e3, e4])]; first | rfl | simp [go_sem]) fun F7 => ?_
            refine lyp F7 rfl HC5 rfl (by omega) (want_yes F7 rfl (e := 18) rfl (by omega) (show _ = Value.bool true from by simp [upd, e0, e3, e4])) (v := Value.pointer (some ⟨bx, 0, none⟩)) (fun wr hwr => by simp only [execOp, (F7.eval 4 (by omega)).trans (show _ = Value.pointer (some ⟨bx, 0, none⟩) from by simp [upd, e0, e3, e4])]; simp [go_sem]) fun F8 => ?_
            refine lyp F8 rfl HC5 rfl (by omega) (want_yes F8 rfl (e := 18) rfl (by omega) (show _ = Value.bool true from by simp [upd, e0, e3, e4])) (v := Value.string ⟨n.toArray⟩) (fun wr hwr => by simp only [execOp, (F8.eval 19 (by omega)).trans (show _ = Value.pointer (some ⟨bx, 0, none⟩) from by simp [upd, e0, e3, e4])]; simp [go_sem, (VB wr hwr).c0]) fun F9 => ?_
            refine lyp F9 rfl HC5 rfl (by omega) (want_yes F9 rfl (e := 18) rfl (by omega) (show _ = Value.bool true from by simp [upd, e0, e3, e4])) (v := Value.slice (some ⟨b, off, none⟩) M cap) (fun wr hwr => by simp only [execOp, (F9.eval 0 (by omega)).trans (show _ = Value.slice (some ⟨b, off, none⟩) M cap from by simp [upd, e0, e3, e4])]; first | rfl | simp [go_sem]) fun F10 => ?_
            refine lyp F10 rfl HC5 rfl (by omega) (want_yes F10 rfl (e := 18) rfl (by omega) (show _ = Value.bool true from by simp [upd, e0, e3, e4])) (v := Value.int .i64 (q : Int)) (fun wr hwr => by simp only [execOp, (F10.eval 3 (by omega)).trans (show _ = Value.int .i64 (q : Int) from by simp [upd, e0, e3, e4])]; first | rfl | simp [go_sem]) fun F11 => ?_
            refine lyp F11 rfl HC5 rfl (by omega) (want_yes F11 rfl (e := 18) rfl (by omega) (show _ = Value.bool true from by simp [upd, e0, e3, e4])) (v := Value.int .i64 ((q - 1 : Nat) : Int)) (fun wr hwr => by simp only [execOp, (F11.eval 22 (by omega)).trans (show _ = Value.int .i64 (q : Int) from by simp [upd, e0, e3, e4])]; simp [go_sem, Act.eval, hqw]) fun F12 => ?_
            refine lyp F12 rfl HC5 rfl (by omega) (want_yes F12 rfl (e := 18) rfl (by omega) (show _ = Value.bool true from by simp [upd, e0, e3, e4])) (v := Value.pointer (some ⟨b, off + (q - 1) * 7, none⟩)) (fun wr hwr => by simp only [execOp, (F12.eval 21 (by omega)).trans (show _ = Value.slice (some ⟨b, off, none⟩) M cap from by simp [upd, e0, e3, e4]), (F12.eval 23 (by omega)).trans (show _ = Value.int .i64 ((q - 1 : Nat) : Int) from by simp [upd, e0, e3, e4])]; simp [go_sem, hq1]) fun F13 => ?_
            refine lyp F13 rfl HC5 rfl (by omega) (want_yes F13 rfl (e := 18) rfl (by omega) (show _ = Value.bool true from by simp [upd, e0, e3, e4])) (v := Value.pointer (some ⟨b, off + (q - 1) * 7, none⟩)) (fun wr hwr => by simp only [execOp, (F13.eval 24 (by omega)).trans (show _ = Value.pointer (some ⟨b, off + (q - 1) * 7, none⟩) from by simp [upd, e0, e3, e4])]; simp [go_sem]) fun F14 => ?_
            refine lyp F14 rfl HC5 rfl (by omega) (want_yes F14 rfl (e := 18) rfl (by omega) (show _ = Value.bool true from by simp [upd, e0, e3, e4])) (v := Value.string ⟨p.n.toArray⟩) (fun wr hwr => by simp only [execOp, (F14.eval 25 (by omega)).trans (show _ = Value.pointer (some ⟨b, off + (q - 1) * 7, none⟩) from by simp [upd, e0, e3, e4])]; simp [go_sem, VP wr hwr]) fun F15 => ?_
            refine lyp F15 rfl HC5 rfl (by omega) (want_yes F15 rfl (e := 18) rfl (by omega) (show _ = Value.bool true from by simp [upd, e0, e3, e4])) (v := Value.bool true) (fun wr hwr => by simp only [execOp, (F15.eval 20 (by omega)).trans (show _ = Value.string ⟨n.toArray⟩ from by simp [upd, e0, e3, e4]), (F15.eval 26 (by omega)).trans (show _ = Value.string ⟨p.n.toArray⟩ from by simp [upd, e0, e3, e4])]; simp [go_sem, Act.eval, HLE]) fun F16 => ?_
            refine lyp F16 rfl HC5 rfl (by omega) (want_yes F16 rfl (e := 15) rfl (by omega) (show _ = Value.bool false from by simp [upd, e0, e3, e4])) (v := Value.bool true) (fun wr hwr => by simp only [execOp, (F16.eval 18 (by omega)).trans (show _ = Value.bool true from by simp [upd, e0, e3, e4]), (F16.eval 27 (by omega)).trans (show _ = Value.bool true from by simp [upd, e0, e3, e4])]; simp [go_sem, Act.eval]) fun F17 => ?_
            refine lyp F17 rfl HC5 rfl (by omega) (wanted_none rfl) (v := Value.bool true) (fun wr hwr => by simp only [execOp, (F17.eval 15 (by omega)).trans (show _ = Value.bool false from by simp [upd, e0, e3, e4]), (F17.eval 28 (by omega)).trans (show _ = Value.bool true from by simp [upd, e0, e3, e4])]; simp [go_sem, Act.eval]) fun F18 => ?_
            refine ⟨fun _ => HC5, ?_⟩
            refine hK _ _ ?_
            clear F0 F1 F2 F3 F4 F5 F6 F7 F8 F9 F10 F11 F12 F13 F14 F15 F16 F17 F18 e0 e3 e4 HCC VB VP
            simp only [Act.put, List.setIfInBounds_toArray, List.set_cons_succ, List.set_cons_zero]
            have HZ : Hid (Below W.heap.size W w2) := HX.out.drew.trans (hb2.mono HX.out.size)
            have HN : Hid (¬ Dig es) := dig_not2 HE.out hq0 HPP.out hnl
            clear HRA HRT hnl HLE HPC hqw hb2
            go_wp2_with fail
            go_ret
            exact ⟨ret_bool (dgB_not HN.out).symm, HZ.out⟩
        · have HRT := hrt
          obtain rfl : q = 0 := by omega
          clear hrt
          rename_i K hK
          try rw [show ∀ a : Act, a.put none undef = a from fun _ => rfl]
          refine wp_region_mix (fun wq => Below X.heap.size X wq) (fun i => i == 1 || i == 99) 99 (by kernel_rfl) rfl (by kernel_rfl) (by kernel_rfl) (by kernel_rfl) ?_
          refine withFrP (N := 31) rfl ?_
          intro f0 F0 hff
          have e0 : f0 0 = Value.slice (some ⟨b, off, none⟩) M cap := hff 0
          have e3 : f0 3 = Value.int .i64 0 := hff 3
          have e4 : f0 4 = Value.pointer (some ⟨bx, 0, none⟩) := hff 4
          clear hff
          have HCC : (fun wq => Below X.heap.size X wq) (({ X with drawn := X.drawn + 1 } : World)) := (Below.drew (Below.refl X.heap.size X))
          have VB : ∀ wr, Below X.heap.size X wr → VAt wr bx 0 ⟨er, n, c, rc, v, d, u, h⟩ := fun wr hw => HV.keep (hw.block bx HV.lt)
          refine lyp F0 rfl HCC rfl (by omega) (wanted_none rfl) (v := Value.agg #[.string ⟨n.toArray⟩, .int .i64 c, .int .i64 rc, .int .i64 v, .int .i64 d, .int .i64 u, .int .i64 h]) (fun wr hwr => by simp only [execOp, (F0.eval 4 (by omega)).trans (show _ = Value.pointer (some ⟨bx, 0, none⟩) from by simp [upd, e0, e3, e4])]; simp [go_sem, (VB wr hwr).c0, (VB wr hwr).c1, (VB wr hwr).c2, (VB wr hwr).c3, (VB wr hwr).c4, (VB wr hwr).c5, (VB wr hwr).c6]) fun F1 => ?_
          refine lcp F1 rfl HCC rfl (by omega) (wanted_none rfl) (g := 47) (args := #[Value.agg #[.string ⟨n.toArray⟩, .int .i64 c, .int .i64 rc, .int .i64 v, .int .i64 d, .int .i64 u, .int .i64 h]]) (by simp only [execOp, resolve, invoke, List.map_toArray, List.map_cons, List.map_nil, (F1.eval 12 (by omega)).trans (show _ = Value.agg #[.string ⟨n.toArray⟩, .int .i64 c, .int .i64 rc, .int .i64 v, .int .i64 d, .int .i64 u, .int .i64 h] from by simp [upd, e0, e3, e4])]; simp [go_sem, Act.eval]) (HRA ({ X with drawn := X.drawn + 1 } : World)) ?_
          rintro e w2 ⟨rfl, hb2⟩
          rw [HRT]
          refine ⟨_, rfl, fun F2 => ?_⟩
          have HC5 : (fun wq => Below X.heap.size X wq) w2 := HCC.trans hb2
          refine lyp F2 rfl HC5 rfl (by omega) (wanted_none rfl) (v := Value.bool false) (fun wr hwr => by simp only [execOp, (F2.eval 13 (by omega)).trans (show _ = Value.bool true from by simp [upd, e0, e3, e4])]; simp [go_sem, Act.eval]) fun F3 => ?_
          refine lyp F3 rfl HC5 rfl (by omega) (wanted_none rfl) (v := Value.bool false) (fun wr hwr => by simp only [execOp, (F3.eval 14 (by omega)).trans (show _ = Value.bool false from by simp [upd, e0, e3, e4])]; first | rfl | simp [go_sem]) fun F4 => ?_
          refine lyp F4 rfl HC5 rfl (by omega) (want_yes F4 rfl (e := 15) rfl (by omega) (show _ = Value.bool false from by simp [upd, e0, e3, e4])) (v := Value.int .i64 0) (fun wr hwr => by simp only [execOp, (F4.eval 3 (by omega)).trans (show _ = Value.int .i64 0 from by simp [upd, e0, e3, e4])]; first | rfl | simp [go_sem]) fun F5 => ?_
          refine lyp F5 rfl HC5 rfl (by omega) (want_yes F5 rfl (e := 15) rfl (by omega) (show _ = Value.bool false from by simp [upd, e0, e3, e4])) (v := Value.bool false) (fun wr hwr => by simp only [execOp, (F5.eval 16 (by omega)).trans (show _ = Value.int .i64 0 from by simp [upd, e0, e3, e4])]; simp [go_sem, Act.eval]) fun F6 => ?_
          refine lyp F6 rfl HC5 rfl (by omega) (want_yes F6 rfl (e := 15) rfl (by omega) (show _ = Value.bool false from by simp [upd, e0, e3, e4])) (v := Value.bool false) (fun wr hwr => by simp only [execOp, (F6.eval 17 (by omega)).trans (show _ = Value.bool false from by simp [upd, e0, e3, e4])]; first | rfl | simp [go_sem]) fun F7 => ?_
          refine lnp F7 rfl HC5 rfl (by omega) (want_no F7 rfl (e := 18) rfl (by omega) (show _ = Value.bool false from by simp [upd, e0, e3, e4]) (by decide)) fun F8 => ?_
          refine lnp F8 rfl HC5 rfl (by omega) (want_no F8 rfl (e := 18) rfl (by omega) (show _ = Value.bool false from by simp [upd, e0, e3, e4]) (by decide)) fun F9 => ?_
          refine lnp F9 rfl HC5 rfl (by omega) (want_no F9 rfl (e := 18) rfl (by omega) (show _ = Value.bool false from by simp [upd, e0, e3, e4]) (by decide)) fun F10 => ?_
          refine lnp F10 rfl HC5 rfl (by omega) (want_no F10 rfl (e := 18) rfl (by omega) (show _ = Value.bool false from by simp [upd, e0, e3, e4]) (by decide)) fun F11 => ?_
          refine lnp F11 rfl HC5 rfl (by omega) (want_no F11 rfl (e := 18) rfl (by omega) (show _ = Value.bool false from by simp [upd, e0, e3, e4]) (by decide)) fun F12 => ?_
          refine lnp F12 rfl HC5 rfl (by omega) (want_no F12 rfl (e := 18) rfl (by omega) (show _ = Value.bool false from by simp [upd, e0, e3, e4]) (by decide)) fun F13 => ?_
          refine lnp F13 rfl HC5 rfl (by omega) (want_no F13 rfl (e := 18) rfl (by omega) (show _ = Value.bool false from by simp [upd, e0, e3, e4]) (by decide)) fun F14 => ?_
          refine lnp F14 rfl HC5 rfl (by omega) (want_no F14 rfl (e := 18) rfl (by omega) (show _ = Value.bool false from by simp [upd, e0, e3, e4]) (by decide)) fun F15 => ?_
          refine lnp F15 rfl HC5 rfl (by omega) (want_no F15 rfl (e := 18) rfl (by omega) (show _ = Value.bool false from by simp [upd, e0, e3, e4]) (by decide)) fun F16 => ?_
          refine lyp F16 rfl HC5 rfl (by omega) (want_yes F16 rfl (e := 15) rfl (by omega) (show _ = Value.bool false from by simp [upd, e0, e3, e4])) (v := Value.bool false) (fun wr hwr => by simp only [execOp, (F16.eval 18 (by omega)).trans (show _ = Value.bool false from by simp [upd, e0, e3, e4])]; simp [go_sem, Act.eval]) fun F17 => ?_
          refine lyp F17 rfl HC5 rfl (by omega) (wanted_none rfl) (v := Value.bool false) (fun wr hwr => by simp only [execOp, (F17.eval 15 (by omega)).trans (show _ = Value.bool false from by simp [upd, e0, e3, e4]), (F17.eval 28 (by omega)).trans (show _ = Value.bool false from by simp [upd, e0, e3, e4])]; simp [go_sem, Act.eval]) fun F18 => ?_
          refine ⟨fun _ => HC5, ?_⟩
          refine hK _ _ ?_
          clear F0 F1 F2 F3 F4 F5 F6 F7 F8 F9 F10 F11 F12 F13 F14 F15 F16 F17 F18 e0 e3 e4 HCC VB
          simp only [Act.put, List.setIfInBounds_toArray, List.set_cons_succ, List.set_cons_zero]
          have HZ : Hid (Below W.heap.size W w2) := HX.out.drew.trans (hb2.mono HX.out.size)
          have HN : Hid (Dig (es.take (0 + 1))) := dig_more HP.out HE.out HRT (fun p' h0 _ => absurd h0 hq0)
          clear HRA HRT hb2
          go_wp2_with fail
          go_roundw
          case rel => exact ⟨0 + 1, by omega, by go_num, HN.out, HZ.out⟩
          case measure => simp [intOf]; omega
      · have HRT : Ent.right ⟨er, n, c, rc, v, d, u, h⟩ = false := by simpa using hrt
        clear hrt
        rename_i K hK
        try rw [show ∀ a : Act, a.put none undef = a from fun _ => rfl]
        refine wp_region_mix (fun wq => Below X.heap.size X wq) (fun i => i == 1 || i == 99) 99 (by kernel_rfl) rfl (by kernel_rfl) (by kernel_rfl) (by kernel_rfl) ?_
        refine withFrP (N := 31) rfl ?_
        intro f0 F0 hff
        have e0 : f0 0 = Value.slice (some ⟨b, off, none⟩) M cap := hff 0
        have e3 : f0 3 = Value.int .i64 (q : Int) := hff 3
        have e4 : f0 4 = Value.pointer (some ⟨bx, 0, none⟩) := hff 4
        clear hff
        have HCC : (fun wq => Below X.heap.size X wq) (({ X with drawn := X.drawn + 1 } : World)) := (Below.drew (Below.refl X.heap.size X))
        have VB : ∀ wr, Below X.heap.size X wr → VAt wr bx 0 ⟨er, n, c, rc, v, d, u, h⟩ := fun wr hw => HV.keep (hw.block bx HV.lt)
        refine lyp F0 rfl HCC rfl (by omega) (wanted_none rfl) (v := Value.agg #[.string ⟨n.toArray⟩, .int .i64 c, .int .i64 rc, .int .i64 v, .int .i64 d, .int .i64 u, .int .i64 h]) (fun wr hwr => by simp only [execOp, (F0.eval 4 (by omega)).trans (show _ = Value.pointer (some ⟨bx, 0, none⟩) from by simp [upd, e0, e3, e4])]; simp [go_sem, (VB wr hwr).c0, (VB wr hwr).c1, (VB wr hwr).c2, (VB wr hwr).c3, (VB wr hwr).c4, (VB wr hwr).c5, (VB wr hwr).c6]) fun F1 => ?_
        refine lcp F1 rfl HCC rfl (by omega) (wanted_none rfl) (g := 47) (args := #[Value.agg #[.string ⟨n.toArray⟩, .int .i64 c, .int .i64 rc, .int .i64 v, .int .i64 d, .int .i64 u, .int .i64 h]]) (by simp only [execOp, resolve, invoke, List.map_toArray, List.map_cons, List.map_nil, (F1.eval 12 (by omega)).trans (show _ = Value.agg #[.string ⟨n.toArray⟩, .int .i64 c, .int .i64 rc, .int .i64 v, .int .i64 d, .int .i64 u, .int .i64 h] from by simp [upd, e0, e3, e4])]; simp [go_sem, Act.eval]) (HRA ({ X with drawn := X.drawn + 1 } : World)) ?_
        rintro e w2 ⟨rfl, hb2⟩
        rw [HRT]
        refine ⟨_, rfl, fun F2 => ?_⟩
        have HC5 : (fun wq => Below X.heap.size X wq) w2 := HCC.trans hb2
        refine lyp F2 rfl HC5 rfl (by omega) (wanted_none rfl) (v := Value.bool true) (fun wr hwr => by simp only [execOp, (F2.eval 13 (by omega)).trans (show _ = Value.bool false from by simp [upd, e0, e3, e4])]; simp [go_sem, Act.eval]) fun F3 => ?_
        refine lyp F3 rfl HC5 rfl (by omega) (wanted_none rfl) (v := Value.bool true) (fun wr hwr => by simp only [execOp, (F3.eval 14 (by omega)).trans (show _ = Value.bool true from by simp [upd, e0, e3, e4])]; first | rfl | simp [go_sem]) fun F4 => ?_
        refine lnp F4 rfl HC5 rfl (by omega) (want_no F4 rfl (e := 15) rfl (by omega) (show _ = Value.bool true from by simp [upd, e0, e3, e4]) (by decide)) fun F5 => ?_
        refine lnp F5 rfl HC5 rfl (by omega) (want_no F5 rfl (e := 15) rfl (by omega) (show _ = Value.bool true from by simp [upd, e0, e3, e4]) (by decide)) fun F6 => ?_
        refine lnp F6 rfl HC5 rfl (by omega) (want_no F6 rfl (e := 15) rfl (by omega) (show _ = Value.bool true from by simp [upd, e0, e3, e4]) (by decide)) fun F7 => ?_
        refine lnp F7 rfl HC5 rfl (by omega) (want_not F7 rfl (e := 18) rfl (by omega) (show _ = undef from by simp [upd, e0, e3, e4])) fun F8 => ?_
        refine lnp F8 rfl HC5 rfl (by omega) (want_not F8 rfl (e := 18) rfl (by omega) (show _ = undef from by simp [upd, e0, e3, e4])) fun F9 => ?_
        refine lnp F9 rfl HC5 rfl (by omega) (want_not F9 rfl (e := 18) rfl (by omega) (show _ = undef from by simp [upd, e0, e3, e4])) fun F10 => ?_
        refine lnp F10 rfl HC5 rfl (by omega) (want_not F10 rfl (e := 18) rfl (by omega) (show _ = undef from by simp [upd, e0, e3, e4])) fun F11 => ?_
        refine lnp F11 rfl HC5 rfl (by omega) (want_not F11 rfl (e := 18) rfl (by omega) (show _ = undef from by simp [upd, e0, e3, e4])) fun F12 => ?_
        refine lnp F12 rfl HC5 rfl (by omega) (want_not F12 rfl (e := 18) rfl (by omega) (show _ = undef from by simp [upd, e0, e3, e4])) fun F13 => ?_
        refine lnp F13 rfl HC5 rfl (by omega) (want_not F13 rfl (e := 18) rfl (by omega) (show _ = undef from by simp [upd, e0, e3, e4])) fun F14 => ?_
        refine lnp F14 rfl HC5 rfl (by omega) (want_not F14 rfl (e := 18) rfl (by omega) (show _ = undef from by simp [upd, e0, e3, e4])) fun F15 => ?_
        refine lnp F15 rfl HC5 rfl (by omega) (want_not F15 rfl (e := 18) rfl (by omega) (show _ = undef from by simp [upd, e0, e3, e4])) fun F16 => ?_
        refine lnp F16 rfl HC5 rfl (by omega) (want_no F16 rfl (e := 15) rfl (by omega) (show _ = Value.bool true from by simp [upd, e0, e3, e4]) (by decide)) fun F17 => ?_
        refine lyp F17 rfl HC5 rfl (by omega) (wanted_none rfl) (v := Value.bool true) (fun wr hwr => by simp only [execOp, (F17.eval 15 (by omega)).trans (show _ = Value.bool true from by simp [upd, e0, e3, e4])]; simp [go_sem, Act.eval]) fun F18 => ?_
        refine ⟨fun _ => HC5, ?_⟩
        refine hK _ _ ?_
        clear F0 F1 F2 F3 F4 F5 F6 F7 F8 F9 F10 F11 F12 F13 F14 F15 F16 F17 F18 e0 e3 e4 HCC VB
        simp only [Act.put, List.setIfInBounds_toArray, List.set_cons_succ, List.set_cons_zero]
        have HZ : Hid (Below W.heap.size W w2) := HX.out.drew.trans (hb2.mono HX.out.size)
        have HN : Hid (¬ Dig es) := dig_not HE.out HRT
        clear HRA HRT hb2
        go_wp2_with fail
        go_ret
        exact ⟨ret_bool (dgB_not HN.out).symm, HZ.out⟩
    · have hr : Dig es := by rw [List.take_of_length_le (by rw [HL.out]; omega)] at hpre; exact hpre
      have HR : Hid (Dig es) := hr
      have HB : Hid _ := hbel
      clear hr hpre hbel
      go_wp2_with fail
      go_ret
      exact ⟨ret_bool (dgB_iff.2 HR.out).symm, HB.out⟩
end Go.Proofs.YtnphkmdanicemaaGreatDoor
