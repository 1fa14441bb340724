import Derived.Test.YtaiknlnjahjeiaaRf7
import Derived.Test.YtaiknlnjahjeiaaRf4
import Derived.Deep.Cut
namespace Go.Proofs.Ytaiknlnjahjeiaa
open Go.RowKit Go.PlainAid Go.MapKept
set_option linter.unusedVariables false
set_option linter.unusedSimpArgs false
set_option maxRecDepth 100000 in
set_option maxHeartbeats 3200000 in
theorem rdo_any {B0 K rb : Nat} {v : Value} {M : List RC} (k A B q : Int) (n : List UInt8) (w : World) (h : RMap B0 rb v M w) (hB0 : B0 ≤ w.heap.size) (hA : RAll B0 K M w) (hK : K ≤ 90000) (hnl : n.length ≤ 140737488355328) :
    Calls Try.prog 36 #[.pointer (some ⟨rb, 0, none⟩), .agg #[.int .i64 k, .string ⟨n.toArray⟩, .int .i64 A, .int .i64 B], .int .i64 q] w (DoPostR B0 rb v k A B q n M w) := by
  obtain ⟨ob, hob⟩ : ∃ b, b = w.heap.size := ⟨_, rfl⟩
  obtain ⟨X0, hX⟩ : ∃ X, X = w.alloc (.cells #[.int .i64 k, .string ⟨n.toArray⟩, .int .i64 A, .int .i64 B] 31) := ⟨_, rfl⟩
  have hbX : Below w.heap.size w X0 := by rw [hX]; exact (Below.refl _ _).alloc (Nat.le_refl _) _
  have hB : Blk X0 ob #[.int .i64 k, .string ⟨n.toArray⟩, .int .i64 A, .int .i64 B] 31 := by rw [hX, hob]; exact heap_alloc_new w _
  have o0 : X0.cell? ⟨ob, 0, none⟩ = some (.int .i64 k) := hB.cell 0
  have o1 : X0.cell? ⟨ob, 1, none⟩ = some (.string ⟨n.toArray⟩) := hB.cell 1
  have o2 : X0.cell? ⟨ob, 2, none⟩ = some (.int .i64 A) := hB.cell 2
  have o3 : X0.cell? ⟨ob, 3, none⟩ = some (.int .i64 B) := hB.cell 3
  have HRI : Hid _ := rright_any k A B n X0 hnl
  have HBO : Hid (Blk X0 ob #[.int .i64 k, .string ⟨n.toArray⟩, .int .i64 A, .int .i64 B] 31) := hB
  have HBX : Hid (Below w.heap.size w X0) := hbX
  have HMw : Hid (RMap B0 rb v M w) := h
  have HAw : Hid (RAll B0 K M w) := hA
  have HB0 : Hid (B0 ≤ w.heap.size) := hB0
  by_cases hr : (nameB n && opB k A B) = true
  · by_cases hk : k = 1
    · subst hk
      rw [hr] at HRI
      have HHR : Hid ((nameB n && opB 1 A B) = true) := hr
      have HCR : Hid (∀ X, Below w.heap.size w X → Calls Try.prog 58 #[.pointer (some ⟨rb, 0, none⟩), .agg #[.int .i64 1, .string ⟨n.toArray⟩, .int .i64 A, .int .i64 B]] X (fun e w' => ∃ er M', e = .returned (.tuple #[.int .i64 0, .int .i64 er]) ∧ RRes 1 A B q n M 0 er M' ∧ RDone B0 rb v X M' w' ∧ ∀ c ∈ M', c ∈ M ∨ c = newRC n A B)) := fun X hXb => by
        have hM := HMw.out.more hXb
        have hAX := HAw.out.more hXb
        cases hl : rlook n M with
        | some c =>
          refine (rcreate_no 1 A B n X hM hAX (by omega) hl).mono ?_
          rintro e w' ⟨rfl, hb⟩
          exact ⟨_, M, rfl, RRes.there HHR.out rfl c hl, RDone.ofBelow hM hb, fun c hc => Or.inl hc⟩
        | none =>
          by_cases hq : A < B
          · refine (rcreate_cap 1 A B n X hM hAX (by omega) hl hq).mono ?_
            rintro e w' ⟨rfl, hb⟩
            exact ⟨_, M, rfl, RRes.cap HHR.out rfl hl hq, RDone.ofBelow hM hb, fun c hc => Or.inl hc⟩
          · refine (rcreate_yes 1 A B n X hM (Nat.le_trans HB0.out hXb.size) hAX hK hl hq).mono ?_
            rintro e w' ⟨rfl, hd⟩
            exact ⟨_, _, rfl, RRes.made HHR.out rfl hl hq, hd, fun c hc => (insR_mem.1 hc).elim Or.inr Or.inl⟩
      clear h hA hr hnl hbX hB hB0
      go_enter Try.func36, Try.ntmps36
      go_upto_region 1 with fail
      rw [← hX, ← hob]
      clear hX hob
      go_wp2_with fail
      refine Calls.mono HRI.out ?_
      rintro e9 X ⟨rfl, hbX1⟩
      have hBO := HBO.out.below hbX1 HBO.out.lt
      have p0 : X.cell? ⟨ob, 0, none⟩ = some (.int .i64 1) := hBO.cell 0
      have p1 : X.cell? ⟨ob, 1, none⟩ = some (.string ⟨n.toArray⟩) := hBO.cell 1
      have p2 : X.cell? ⟨ob, 2, none⟩ = some (.int .i64 A) := hBO.cell 2
      have p3 : X.cell? ⟨ob, 3, none⟩ = some (.int .i64 B) := hBO.cell 3
      have HWX : Hid (Below w.heap.size w X) := HBX.out.trans (hbX1.mono HBX.out.size)
      clear hbX1 hBO HRI o0 o1 o2 o3
      go_wp2_with fail
      refine Calls.mono (HCR.out X HWX.out) ?_
      rintro e9 Y ⟨er, M', rfl, hres, hdn, hmem⟩
      have HRS : Hid (RRes 1 A B q n M 0 er M') := hres
      have HDN : Hid (RDone B0 rb v w M' Y) := show RDone B0 rb v w M' Y from by
        obtain ⟨v', hm', hf'⟩ := hdn.map
        exact ⟨⟨v', hm', fun k hk => (hf' k hk).imp id (fun e => Nat.le_trans HWX.out.size e)⟩, (Chg.ofBelow _ HWX.out).trans hdn.chg (fun _ _ e => e)⟩
      have HRD : Hid (∀ c ∈ M', c.Rd B0 Y) := fun c hc => by
        rcases hmem c hc with hc | rfl
        · exact ((HAw.out.more HWX.out).rd c hc).chg (HMw.out.more HWX.out) hdn.chg
        · exact ⟨World.ownsRow_nil _ _ _ _, World.ownsRow_nil _ _ _ _⟩
      have HFS : Hid (∀ j, hasL M' j → hasL M j ∨ w.heap.size ≤ j) := fun j ⟨c, hc, hv⟩ => by
        rcases hmem c hc with hc | rfl
        · exact Or.inl ⟨c, hc, hv⟩
        · rcases hv with hv | hv <;> cases hv
      clear hres hdn hmem HCR
      go_wp2_with fail
      go_ret2
      exact ⟨_, _, _, rfl, HRS.out, HDN.out, HRD.out, HFS.out⟩
    · cases hl : rlook n M with
      | some c =>
        obtain ⟨i, h1, h2, h3⟩ := rlook_at hl
        exact rdo_c k A B q n w h hB0 hA hK hr hk hl h1 h3 hnl
      | none =>
        rw [hr] at HRI
        have HRS : Hid (RRes k A B q n M 0 100 M) := RRes.none hr hk hl
        have HFD : Hid (∀ X, Below w.heap.size w X → Calls Try.prog 59 #[.pointer (some ⟨rb, 0, none⟩), .string ⟨n.toArray⟩] X fun e w' => e = .returned (.int .i64 (-1)) ∧ w' = X) := fun X hX => find_no X (HMw.out.more hX) (Nat.le_trans HAw.out.len (by omega)) (rlook_none hl)
        have hk2 : (k == 1) = false := by simpa using hk
        clear h hA hr hnl hbX hB hl hB0
        go_enter Try.func36, Try.ntmps36
        go_upto_region 1 with fail
        rw [← hX, ← hob]
        clear hX hob
        go_wp2_with fail
        refine Calls.mono HRI.out ?_
        rintro e9 X ⟨rfl, hbX1⟩
        have hBO := HBO.out.below hbX1 HBO.out.lt
        have p0 : X.cell? ⟨ob, 0, none⟩ = some (.int .i64 k) := hBO.cell 0
        have p1 : X.cell? ⟨ob, 1, none⟩ = some (.string ⟨n.toArray⟩) := hBO.cell 1
        have HWX : Hid (Below w.heap.size w X) := HBX.out.trans (hbX1.mono HBX.out.size)
        clear hbX1 hBO HRI o0 o1 o2 o3
        go_wp2_with fail
        refine Calls.mono (HFD.out X HWX.out) ?_
        rintro e9 w9 ⟨rfl, hw⟩
        replace hw := hw.symm
        subst hw
        go_wp2_with fail
        go_ret2
        exact ⟨_, _, _, rfl, HRS.out, RDone.ofBelow HMw.out HWX.out, fun x hx => (HAw.out.rd x hx).more HWX.out, fun j hj => Or.inl hj⟩
  · replace hr : (nameB n && opB k A B) = false := by simpa using hr
    rw [hr] at HRI
    have HRS : Hid (RRes k A B q n M 0 1 M) := RRes.arg hr
    clear h hA hr hnl hbX hB hB0
    go_enter Try.func36, Try.ntmps36
    go_upto_region 1 with fail
    rw [← hX, ← hob]
    clear hX hob
    go_wp2_with fail
    refine Calls.mono HRI.out ?_
    rintro e9 X ⟨rfl, hbX1⟩
    have HWX : Hid (Below w.heap.size w X) := HBX.out.trans (hbX1.mono HBX.out.size)
    clear hbX1 HRI o0 o1 o2 o3
    go_wp2_with fail
    go_ret2
    exact ⟨_, _, _, rfl, HRS.out, RDone.ofBelow HMw.out HWX.out, fun x hx => (HAw.out.rd x hx).more HWX.out, fun j hj => Or.inl hj⟩
/-- What holds of the counters behind an op. -/
theorem wo_sum {A : Int} : ∀ {H : List (Int × Int)}, H.Pairwise (fun a b => a.1 ≠ b.1) → sumH (wo A H) = sumH H - amtR A H
  | [], _ => by simp [wo, sumH, amtR]
  | x :: t, h => by
    obtain ⟨h1, h2⟩ := List.pairwise_cons.1 h
    have ih := wo_sum (A := A) h2
    by_cases e : x.1 = A
    · have e1 : wo A (x :: t) = t := by
        unfold wo
        rw [List.filter_cons_of_neg (by simp [e])]
        rw [List.filter_eq_self]
        intro y hy
        have := h1 y hy
        simp only [bne_iff_ne, ne_eq]
        exact fun e2 => this (by rw [e, e2])
      rw [e1, amtR, if_pos e]
      simp [sumH]
      omega
    · have e1 : wo A (x :: t) = x :: wo A t := by
        unfold wo
        rw [List.filter_cons_of_pos (by simpa using e)]
      rw [e1, amtR, if_neg e]
      simp only [sumH, List.map_cons, List.sum_cons] at ih ⊢
      omega
theorem wo_kd {A : Int} {H : List (Int × Int)} (h : H.Pairwise (fun a b => a.1 ≠ b.1)) : (wo A H).Pairwise (fun a b => a.1 ≠ b.1) := h.sublist List.filter_sublist
theorem wo_ne {A : Int} {H : List (Int × Int)} : ∀ p ∈ wo A H, p.1 ≠ A := fun p hp => by
  have := (List.mem_filter.1 hp).2
  simpa using this
theorem wo_sub {A : Int} {H : List (Int × Int)} {p : Int × Int} (h : p ∈ wo A H) : p ∈ H := (List.mem_filter.1 h).1
end Go.Proofs.Ytaiknlnjahjeiaa
