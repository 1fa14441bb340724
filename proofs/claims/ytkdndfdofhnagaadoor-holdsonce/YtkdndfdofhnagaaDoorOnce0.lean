import Derived.Test.YtkdndfdofhnagaaDoorBack
namespace Go.Proofs.YtkdndfdofhnagaaDoor
open Go.RowKit Go.PlainAid
set_option linter.unusedVariables false
set_option linter.unusedSimpArgs false
/-- What the law keeps of a hold (k: when it is due; a: its number; b: its amount; o: it has ended), as the book keeps it. -/
def toHd (e : OpA) : Hd := ⟨e.a / 16, e.b, e.k⟩
def liv (es : List OpA) : List Hd := (es.filter fun e => !e.o).map toHd
theorem liv_append (A B : List OpA) : liv (A ++ B) = liv A ++ liv B := by simp [liv]
theorem liv_yes (e : OpA) (B : List OpA) (h : e.o = false) : liv (e :: B) = toHd e :: liv B := by simp [liv, h]
theorem liv_no (e : OpA) (B : List OpA) (h : e.o = true) : liv (e :: B) = liv B := by simp [liv, h]
theorem sumH_cons (x : Hd) (L : List Hd) : sumH (x :: L) = x.am + sumH L := rfl
theorem sumH_nil : sumH [] = 0 := rfl
/-- The law's state: the book, the ledger, and what the law has kept. -/
structure OI (b : BS) (s : LS) (es : List OpA) : Prop where
  bok : b.Ok
  sok : s.Ok
  L : b.L = liv es
  num : ∀ e ∈ es, e.a % 16 = b.me ∧ 1 ≤ e.a / 16 ∧ e.a / 16 ≤ b.made
  ord : es.Pairwise fun x y => x.a < y.a
  held : s.h = sumH b.L
  tot : s.d + s.u + s.h = 700
  cap : s.c = 1000
  mad : b.made = es.length
section
variable {b : BS} {s : LS} {es : List OpA}
theorem OI.hold_no (h : OI b s es) (am du : Int) (hc : b.hcode s am ≠ 0) : b.hnum s am = 0 ∧ b.hnext s am du = b ∧ b.hlnext s am = s := by
  have e : (b.hcode s am == 0) = false := by simpa using hc
  simp [BS.hnum, BS.hnext, BS.hlnext, e]
theorem OI.hold (h : OI b s es) (am du : Int) (hc : b.hcode s am = 0) : 1 ≤ am ∧ b.hnum s am = (b.made + 1) * 16 + b.me ∧ OI (b.hnext s am du) (b.hlnext s am) (es ++ [⟨du, (b.made + 1) * 16 + b.me, am, false⟩]) := by
  have e : (b.hcode s am == 0) = true := by simpa using hc
  have hbo := BS.hnext_ok h.bok s am du
  have hso := BS.hlnext_ok b h.sok am
  have ham : okAmt am = true ∧ s.tcode 0 am = 0 := by
    unfold BS.hcode at hc
    cases h1 : okAmt am
    · rw [h1] at hc; simp at hc
    · rw [h1] at hc
      cases h2 : decide (b.room ≤ (b.L.length : Int))
      · rw [h2] at hc; exact ⟨rfl, by simpa using hc⟩
      · rw [h2] at hc; simp at hc
  have ha1 : 1 ≤ am := by have := ham.1; simp [okAmt] at this; exact this.1
  have hn : b.hnext s am du = { b with made := b.made + 1, L := b.L ++ [⟨b.made + 1, am, du⟩] } := by simp [BS.hnext, e]
  have hl : b.hlnext s am = { s with d := s.d - am, h := s.h + am } := by
    simp only [BS.hlnext, e, cond_true, LS.tnext, ham.2, if_true]
    rfl
  rw [hn] at hbo ⊢
  rw [hl] at hso ⊢
  have m0 := h.bok.me0
  have m1 := h.bok.me1
  refine ⟨ha1, by simp [BS.hnum, e], hbo, hso, ?_, fun x hx => ?_, ?_, ?_, ?_, h.cap, ?_⟩
  · show b.L ++ [⟨b.made + 1, am, du⟩] = _
    rw [liv_append, ← h.L, liv_yes _ _ rfl]
    simp only [toHd, liv, List.filter_nil, List.map_nil]
    rw [(num_mod (k := b.made + 1) m0 m1).2]
  · rcases List.mem_append.1 hx with hx | hx
    · have := h.num x hx
      exact ⟨this.1, this.2.1, Int.le_trans this.2.2 (by show b.made ≤ b.made + 1; omega)⟩
    · simp at hx
      subst hx
      have := num_mod (k := b.made + 1) m0 m1
      have h0 := h.bok.made0
      exact ⟨this.1, by show 1 ≤ ((b.made + 1) * 16 + b.me) / 16; omega, by show ((b.made + 1) * 16 + b.me) / 16 ≤ b.made + 1; omega⟩
  · rw [List.pairwise_append]
    refine ⟨h.ord, by simp, fun x hx y hy => ?_⟩
    simp at hy
    subst hy
    have := h.num x hx
    show x.a < (b.made + 1) * 16 + b.me
    omega
  · show s.h + am = sumH (b.L ++ [⟨b.made + 1, am, du⟩])
    rw [sumH_append, h.held, sumH_cons, sumH_nil]
    show _ + am = _ + (am + 0)
    omega
  · have := h.tot
    show s.d - am + s.u + (s.h + am) = 700
    omega
  · have := h.mad
    show b.made + 1 = ((es ++ [_]).length : Nat)
    rw [List.length_append, List.length_singleton]
    omega
theorem OI.ne (h : OI b s es) {A B : List OpA} {e : OpA} (hs : es = A ++ e :: B) : (∀ x ∈ A, x.a / 16 < e.a / 16) ∧ (∀ x ∈ B, e.a / 16 < x.a / 16) := by
  have ho := h.ord
  have hm := h.num
  rw [hs] at ho hm
  rw [List.pairwise_append, List.pairwise_cons] at ho
  have he := hm e (by simp)
  refine ⟨fun x hx => ?_, fun x hx => ?_⟩
  · have h1 := ho.2.2 x hx e (by simp)
    have h2 := hm x (by simp [hx])
    omega
  · have h1 := ho.2.1.1 x hx
    have h2 := hm x (by simp [hx])
    omega
theorem liv_mem {es : List OpA} {y : Hd} (h : y ∈ liv es) : ∃ x ∈ es, x.o = false ∧ y = toHd x := by
  unfold liv at h
  rw [List.mem_map] at h
  obtain ⟨x, hx, rfl⟩ := h
  rw [List.mem_filter] at hx
  exact ⟨x, hx.1, by simpa using hx.2, rfl⟩
theorem OI.bd (h : OI b s es) : ∀ x ∈ b.L, 1 ≤ x.am ∧ x.am ≤ 1099511627776 := fun x hx => (h.bok.each x hx).2.2
theorem OI.end_no (h : OI b s es) {A B : List OpA} {e : OpA} (hs : es = A ++ e :: B) (ho : e.o = true) (i : Nat) : b.ecode s e.a = 70 ∧ b.eamt s e.a = 0 ∧ b.enext s e.a = b ∧ b.elnext s i e.a = s := by
  have he := h.num e (by rw [hs]; simp)
  have hl : look (e.a / 16) b.L = none := by
    unfold look
    rw [List.find?_eq_none]
    intro y hy
    rw [h.L, hs, liv_append, liv_no _ _ ho] at hy
    obtain ⟨n1, n2⟩ := h.ne hs
    simp only [beq_iff_eq]
    rcases List.mem_append.1 hy with hy | hy
    · obtain ⟨x, hx, _, rfl⟩ := liv_mem hy
      have := n1 x hx
      show ¬ e.a / 16 = x.a / 16
      omega
    · obtain ⟨x, hx, _, rfl⟩ := liv_mem hy
      have := n2 x hx
      show ¬ e.a / 16 = x.a / 16
      omega
  have hc := BS.e_none b s e.a he.1 hl
  have e0 : (b.ecode s e.a == 0) = false := by rw [hc]; rfl
  exact ⟨hc, by simp [BS.eamt, e0], by simp [BS.enext, e0], by simp [BS.elnext, e0]⟩
theorem OI.end_yes (h : OI b s es) {A B : List OpA} {e : OpA} (hs : es = A ++ e :: B) (ho : e.o = false) : b.ecode s e.a = 0 ∧ b.eamt s e.a = e.b ∧ (b.elnext s 0 e.a = { s with d := s.d + e.b, h := s.h - e.b }) ∧ (b.elnext s 1 e.a = { s with u := s.u + e.b, h := s.h - e.b }) ∧ ∀ i, i < 2 → OI (b.enext s e.a) (b.elnext s i e.a) (A ++ { e with o := true } :: B) := by
  have he := h.num e (by rw [hs]; simp)
  have hL : b.L = liv A ++ toHd e :: liv B := by rw [h.L, hs, liv_append, liv_yes _ _ ho]
  have hmem : toHd e ∈ b.L := by rw [hL]; simp
  have hl : look (e.a / 16) b.L = some (toHd e) := look_mem h.bok.keys hmem
  have hbd := h.bok.each _ hmem
  have hsum : s.h = sumH (liv A) + (e.b + sumH (liv B)) := by rw [h.held, hL, sumH_append, sumH_cons]; rfl
  have hA := sumH_le (liv A) (fun x hx => h.bd x (by rw [hL]; simp [hx]))
  have hB := sumH_le (liv B) (fun x hx => h.bd x (by rw [hL]; simp [hx]))
  have hok : okAmt e.b = true := by simp [okAmt]; exact hbd.2.2
  have ht : s.tcode 2 e.b = 0 := by
    unfold LS.tcode
    rw [if_pos hok, if_neg (show ¬ s.get 2 < e.b from (show ¬ s.h < e.b by omega))]
  have hc : b.ecode s e.a = 0 := (BS.e_some b s e.a _ he.1 hl).trans ht
  have e0 : (b.ecode s e.a == 0) = true := by rw [hc]; rfl
  have hh : b.hit e.a = toHd e := by simp [BS.hit, hl]
  have hn : b.enext s e.a = { b with L := liv A ++ liv B } := by
    simp only [BS.enext, e0, cond_true]
    have hr : rm (e.a / 16) b.L = liv A ++ liv B := by
      rw [hL]
      refine rm_mid (x := toHd e) (fun y hy => ?_)
      obtain ⟨x, hx, _, rfl⟩ := liv_mem hy
      exact (h.ne hs).1 x hx
    rw [hr]
  have hl0 : b.elnext s 0 e.a = { s with d := s.d + e.b, h := s.h - e.b } := by
    simp only [BS.elnext, e0, cond_true, hh]
    show s.tnext 2 0 e.b = _
    unfold LS.tnext
    rw [if_pos ht]
    rfl
  have hl1 : b.elnext s 1 e.a = { s with u := s.u + e.b, h := s.h - e.b } := by
    simp only [BS.elnext, e0, cond_true, hh]
    show s.tnext 2 1 e.b = _
    unfold LS.tnext
    rw [if_pos ht]
    rfl
  refine ⟨hc, by simp [BS.eamt, e0, hh, toHd], hl0, hl1, fun i hi => ?_⟩
  have hso := BS.elnext_ok b h.sok i hi e.a
  have hbo := BS.enext_ok h.bok s e.a
  have htot := h.tot
  have hcap := h.cap
  have key : (b.elnext s i e.a).h = s.h - e.b ∧ (b.elnext s i e.a).d + (b.elnext s i e.a).u + (b.elnext s i e.a).h = 700 ∧ (b.elnext s i e.a).c = 1000 := by
    rcases (show i = 0 ∨ i = 1 by omega) with rfl | rfl
    · rw [hl0]; exact ⟨rfl, by show s.d + e.b + s.u + (s.h - e.b) = 700; omega, hcap⟩
    · rw [hl1]; exact ⟨rfl, by show s.d + (s.u + e.b) + (s.h - e.b) = 700; omega, hcap⟩
  refine ⟨hbo, hso, ?_, fun x hx => ?_, ?_, ?_, key.2.1, key.2.2, ?_⟩
  · rw [hn, liv_append, liv_no _ _ rfl]
  · rw [hn]
    have hm := h.num
    rw [hs] at hm
    rcases List.mem_append.1 hx with hx | hx
    · exact hm x (by simp [hx])
    · rcases List.mem_cons.1 hx with rfl | hx
      · exact hm e (by simp)
      · exact hm x (by simp [hx])
  · have ho := h.ord
    rw [hs] at ho
    rw [List.pairwise_append, List.pairwise_cons] at ho ⊢
    refine ⟨ho.1, ⟨ho.2.1.1, ho.2.1.2⟩, fun x hx y hy => ?_⟩
    rcases List.mem_cons.1 hy with rfl | hy
    · exact ho.2.2 x hx e (by simp)
    · exact ho.2.2 x hx y (by simp [hy])
  · rw [key.1, hn]
    show _ = sumH (liv A ++ liv B)
    rw [sumH_append]
    omega
  · rw [hn]
    have := h.mad
    rw [hs] at this
    show b.made = _
    simpa using this
/-- All that is due ends, with its amount. -/
theorem xall (now : Int) : ∀ (L : List Hd) (x : XS), (∀ y ∈ L, okAmt y.am = true) → sumH L ≤ x.s.h → L.foldl (xstep now) x = ⟨{ x.s with d := x.s.d + sumH (L.filter fun y => decide (y.du ≤ now)), h := x.s.h - sumH (L.filter fun y => decide (y.du ≤ now)) }, x.left ++ L.filter (fun y => !decide (y.du ≤ now)), x.told ++ L.filter fun y => decide (y.du ≤ now)⟩
  | [], x, _, _ => by
    simp only [List.foldl_nil, List.filter_nil, sumH_nil, List.append_nil]
    rw [Int.add_zero, Int.sub_zero]
  | y :: L, x, h1, h2 => by
    have hy := h1 y (by simp)
    have hrest : ∀ z ∈ L, okAmt z.am = true := fun z hz => h1 z (by simp [hz])
    have hb := sumH_le L (fun z hz => by have := hrest z hz; simp [okAmt] at this; exact this)
    rw [sumH_cons] at h2
    have hya : 1 ≤ y.am := by simp [okAmt] at hy; exact hy.1
    rw [List.foldl_cons]
    by_cases hd : y.du ≤ now
    · have ht : x.s.tcode 2 y.am = 0 := by
        unfold LS.tcode
        rw [if_pos hy, if_neg (show ¬ x.s.get 2 < y.am from (show ¬ x.s.h < y.am by omega))]
      have hx : xstep now x y = ⟨{ x.s with d := x.s.d + y.am, h := x.s.h - y.am }, x.left, x.told ++ [y]⟩ := by
        have hh : xhit now x y = true := by simp [xhit, hd, ht]
        simp only [xstep, hh, cond_true]
        congr 1
        unfold LS.tnext
        rw [if_pos ht]
        rfl
      rw [hx, xall now L _ hrest (by show sumH L ≤ x.s.h - y.am; omega)]
      simp only [List.filter_cons, hd, decide_true, if_true, Bool.not_true, if_false, sumH_cons, List.append_assoc, List.cons_append, List.nil_append, Bool.false_eq_true]
      congr 2
      · omega
      · omega
    · have hx : xstep now x y = ⟨x.s, x.left ++ [y], x.told⟩ := by
        have hh : xhit now x y = false := by simp [xhit, hd]
        simp only [xstep, hh, cond_false]
      rw [hx, xall now L _ hrest (by show sumH L ≤ x.s.h; omega)]
      simp only [List.filter_cons, hd, decide_false, if_true, Bool.not_false, if_false, List.append_assoc, List.cons_append, List.nil_append, Bool.false_eq_true]
def due (now : Int) (e : OpA) : OpA := { e with o := e.o || decide (e.k ≤ now) }
theorem liv_due (now : Int) : ∀ es : List OpA, liv (es.map (due now)) = (liv es).filter fun y => !decide (y.du ≤ now)
  | [] => rfl
  | e :: t => by
    rw [List.map_cons]
    have ih := liv_due now t
    cases ho : e.o
    · rw [liv_yes e t ho, List.filter_cons]
      by_cases hd : e.k ≤ now
      · rw [liv_no _ _ (by simp [due, hd]), ih, if_neg (by show ¬ (!decide (e.k ≤ now)) = true; simp [hd])]
      · rw [liv_yes _ _ (by simp [due, ho, hd]), ih, if_pos (by show (!decide (e.k ≤ now)) = true; simp [hd])]
        rfl
    · rw [liv_no e t ho, liv_no _ _ (by simp [due, ho]), ih]
theorem sum_parts (p : Hd → Bool) : ∀ L : List Hd, sumH (L.filter p) + sumH (L.filter fun y => !p y) = sumH L
  | [] => rfl
  | y :: L => by
    have := sum_parts p L
    rw [List.filter_cons, List.filter_cons]
    cases h : p y
    · simp only [Bool.false_eq_true, if_false, Bool.not_false, if_true, sumH_cons]; omega
    · simp only [if_true, Bool.not_true, Bool.false_eq_true, if_false, sumH_cons]; omega
theorem OI.expire (h : OI b s es) (now : Int) : OI { b with L := (xrun now s b.L).left } (xrun now s b.L).s (es.map (due now)) ∧ ∀ e ∈ es, (e.a ∈ numsOf b.me (xrun now s b.L).told ↔ (e.o = false ∧ e.k ≤ now)) := by
  have hok : ∀ y ∈ b.L, okAmt y.am = true := fun y hy => by simp [okAmt]; exact h.bd y hy
  have hx : xrun now s b.L = _ := xall now b.L ⟨s, [], []⟩ hok (by show sumH b.L ≤ s.h; rw [h.held]; exact Int.le_refl _)
  have hxo := xrun_ok now s b.L h.sok
  have hxs := xrun_sub now s b.L
  simp only [List.nil_append] at hx
  have hp := sum_parts (fun y => decide (y.du ≤ now)) b.L
  refine ⟨⟨BS.sub_ok h.bok hxs, hxo, ?_, fun x hx => ?_, ?_, ?_, ?_, ?_, ?_⟩, fun e he => ?_⟩
  · rw [hx]
    show b.L.filter _ = _
    rw [liv_due, h.L]
  · obtain ⟨e, he, rfl⟩ := List.mem_map.1 hx
    exact h.num e he
  · rw [List.pairwise_map]
    exact h.ord
  · rw [hx]
    show s.h - _ = sumH (b.L.filter _)
    rw [h.held]
    omega
  · rw [hx]
    have := h.tot
    show s.d + _ + s.u + (s.h - _) = 700
    omega
  · rw [hx]
    exact h.cap
  · have := h.mad
    show b.made = _
    rw [List.length_map]
    exact this
  · rw [hx]
    show e.a ∈ numsOf b.me (b.L.filter _) ↔ _
    unfold numsOf
    rw [List.mem_map]
    have hn := h.num e he
    constructor
    · rintro ⟨y, hy, e1⟩
      rw [List.mem_filter, h.L] at hy
      obtain ⟨x, hx2, hxo2, rfl⟩ := liv_mem hy.1
      have hnx := h.num x hx2
      have e2 : x.a = e.a := by
        have : x.a / 16 * 16 + b.me = e.a := by first | exact e1 | (rw [← e1]; simp [toHd]) | (simp [toHd] at e1; omega)
        omega
      have : x = e := by
        obtain ⟨i, hi⟩ := List.getElem?_of_mem hx2
        obtain ⟨j, hj⟩ := List.getElem?_of_mem he
        have li := List.getElem?_eq_some_iff.1 hi
        have lj := List.getElem?_eq_some_iff.1 hj
        have hpw := List.pairwise_iff_getElem.1 h.ord
        rcases Nat.lt_trichotomy i j with hlt | hlt | hlt
        · have := hpw i j li.1 lj.1 hlt
          rw [li.2, lj.2] at this
          omega
        · subst hlt
          rw [hi] at hj
          exact Option.some.inj hj
        · have := hpw j i lj.1 li.1 hlt
          rw [li.2, lj.2] at this
          omega
      subst this
      exact ⟨hxo2, of_decide_eq_true (show decide (x.k ≤ now) = true from hy.2)⟩
    · rintro ⟨h1, h2⟩
      refine ⟨toHd e, ?_, ?_⟩
      · rw [List.mem_filter, h.L]
        refine ⟨?_, (show decide (e.k ≤ now) = true from decide_eq_true h2)⟩
        unfold liv
        exact List.mem_map.2 ⟨e, List.mem_filter.2 ⟨he, by simp [h1]⟩, rfl⟩
      · have : e.a / 16 * 16 + b.me = e.a := by omega
        first | exact this | (simp [toHd]; omega)
end
end Go.Proofs.YtkdndfdofhnagaaDoor
