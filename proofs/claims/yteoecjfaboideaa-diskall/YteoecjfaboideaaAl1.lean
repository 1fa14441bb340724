import Derived.Test.YteoecjfaboideaaAl0
namespace Go.Proofs.Yteoecjfaboideaa
open Go.RowKit Go.PlainAid
set_option linter.unusedVariables false
set_option linter.unusedSimpArgs false
theorem scr_more {L : Nat} {R : List (Ent L)} {w : World} {v : Value} {os : List OpV} (h : Scr L [] w v os) : Scr L R w v os := ⟨h.sh, h.cl, fun o ho => ⟨(h.by' o ho).1, fun ad k c e h0 => by
  rcases (h.by' o ho).2 ad k c e h0 with h1 | ⟨x, hx, _⟩
  · exact Or.inl h1
  · cases hx⟩⟩
theorem px_ptr {L i : Nat} {v : Value} {es : List (Ent L)} (h : PX L v i es) : v = .pointer none ∨ ∃ pb, v = .pointer (some ⟨pb, 0, none⟩) := by
  rcases h with ⟨e, _⟩ | ⟨pb, p, s, rb, S, fv, lv, lent, n, zs, x, r, h1, _⟩
  · exact Or.inl e
  · exact Or.inr ⟨pb, h1⟩
theorem px_opt {L i : Nat} {v : Value} {es : List (Ent L)} (h : PX L v i es) : ∃ po, v = .pointer po := by
  rcases px_ptr h with e | ⟨pb, e⟩
  · exact ⟨_, e⟩
  · exact ⟨_, e⟩
theorem opt_ptr {L i : Nat} {po : Option Addr} {es : List (Ent L)} (h : PX L (.pointer po) i es) : po = none ∨ ∃ pb, po = some ⟨pb, 0, none⟩ := by
  rcases px_ptr h with e | ⟨pb, e⟩
  · cases e; exact Or.inl rfl
  · cases e; exact Or.inr ⟨pb, rfl⟩
set_option maxRecDepth 100000 in
set_option maxHeartbeats 6400000 in
theorem all_of (sec : Int) {vo : Option Addr} {vn vc : Nat} {bs : List UInt8} {ao : Option Addr} {N cap : Nat} {os : List OpV} (w : World) (hb : By w (.slice vo vn vc) bs) (hl : os.length = N) (hnc : N ≤ cap) (hS : ∀ w', Below w.heap.size w w' → Scr w.heap.size [] w' (.slice ao N cap) os) (hN : N ≤ 9223372036854775806) (hB : ∀ o ∈ os, o.bs.length ≤ 1125899906842624) (hO : ∀ o ∈ os, o.n ≤ 9223372036854775807) :
    Calls Try.prog 6 #[.int .i64 sec, .slice vo vn vc, .slice ao N cap] w fun e w' => e = .returned (.bool true) ∧ Below w.heap.size w w' := by
  have HFI : Hid _ := fits_any sec (vo := vo) (vn := vn) (vc := vc) w (hS w (Below.refl _ _)) (by rw [hl]; exact hN) hB
  have HS : Hid (∀ w', Below w.heap.size w w' → Scr w.heap.size [] w' (.slice ao N cap) os) := hS
  have HO : Hid (∀ o ∈ os, o.n ≤ 9223372036854775807 ∧ True) := fun o ho => ⟨hO o ho, trivial⟩
  have HBY : Hid (By w (.slice vo vn vc) bs ∧ True) := ⟨hb, trivial⟩
  have HL : Hid (os.length = N ∧ N ≤ cap) := ⟨hl, hnc⟩
  clear hS hO hb hB hl hnc
  go_enter Try.func6, Try.ntmps6
  go_wp2_with fail
  refine Calls.mono HFI.out ?_
  rintro e w0 ⟨b, rfl, hw0, hfit⟩
  replace hw0 := hw0.symm
  subst hw0
  clear HFI
  cases b with
  | false =>
    clear hfit
    go_wp2_with fail
    go_ret
    exact ⟨rfl, Below.refl _ _⟩
  | true =>
    have HFT : Hid (os.length ≤ 300 ∧ (∀ o ∈ os, o.bs.length ≤ 4194304) ∧ vn ≤ 4194304) := hfit rfl
    clear hfit
    have HAL : Hid _ := alive_yes w
    go_wp2_with fail
    refine Calls.mono HAL.out ?_
    rintro e w1 ⟨rfl, hb1⟩
    have HMD : Hid _ := px_made (L := w.heap.size) (R := []) sec w1 hb1.size (held_nil w1)
    have HB1 : Hid (Below w.heap.size w w1) := hb1
    clear HAL hb1
    go_wp2_with fail
    refine Calls.mono HMD.out ?_
    rintro e w2 ⟨v12, es0, rfl, hP, hH2, hb2⟩
    clear HMD
    rw [List.append_nil] at hH2
    have HB2 : Hid (Below w.heap.size w w2) := HB1.out.trans (hb2.mono HB1.out.size)
    have HTK : Hid _ := px_taken (L := w.heap.size) (R := es0) w2 (HBY.out.1.keep HB2.out) HFT.out.2.2 HB2.out.size hH2
    obtain ⟨po, hpo⟩ := px_opt hP
    subst hpo
    have HP : Hid (PX w.heap.size (.pointer po) 0 es0) := hP
    clear HB1 hb2 hP hH2
    go_wp2_with fail
    refine Calls.mono HTK.out ?_
    rintro e w3 ⟨v13, fs0, rfl, hQ, hH3, hb3⟩
    clear HTK
    obtain ⟨qo, hqo⟩ := px_opt hQ
    subst hqo
    have HST : Hid (PX w.heap.size (.pointer po) 0 es0 ∧ PX w.heap.size (.pointer qo) 0 fs0 ∧ Held (es0 ++ fs0) w3 ∧ Below w.heap.size w w3) := ⟨HP.out, hQ, hH3.perm List.perm_append_comm, HB2.out.trans (hb3.mono HB2.out.size)⟩
    clear hQ hH3 hb3 HB2 HP
    have hN3 : N ≤ 300 := by rw [← HL.out.1]; exact HFT.out.1
    go_wp2_with fail
    go_loopw [12] (fun s12 wr => ∃ i : Nat, i ≤ N ∧ s12 = .int .i64 (i : Int) ∧ ∃ es fs, PX w.heap.size (.pointer po) i es ∧ PX w.heap.size (.pointer qo) i fs ∧ Held (es ++ fs) wr ∧ Below w.heap.size w wr) (fun s12 _ => N - (intOf s12).toNat)
    case atStart => exact ⟨0, Nat.zero_le _, rfl, es0, fs0, HST.out⟩
    case round =>
      clear HST
      obtain ⟨i, hi, rfl, es, fs, hP, hQ, hH, hb⟩ := hrel
      by_cases hlt : i < N
      · obtain ⟨o, ho⟩ : ∃ o, os[i]? = some o := ⟨os[i]'(by have := HL.out.1; omega), List.getElem?_eq_getElem _⟩
        have hom := List.mem_of_getElem? ho
        have hsc := HS.out wr hb
        obtain ⟨g, f, cap', hve, c0, c1, c2, c3, c4⟩ := hsc.cl i o ho
        have hvo : ao = some ⟨g, f, none⟩ := by cases hve; rfl
        subst hvo
        have hix := idx_run 51 58 5 Try.underlying51 (by kernel_rfl) wr g f N cap i hlt
        have hsl : ∀ W, (Instr.sliceAt 51 (.slice (some ⟨g, f, none⟩) N cap) (some (.int .i64 (i : Int))) (some (.int .i64 ((i : Int) + 1))) none).run Try.prog W = .ok (.slice (some ⟨g, f + i * 5, none⟩) 1 (cap - i)) W := fun W => slice_step g f N cap i hlt HL.out.2 W
        obtain ⟨who, hwho⟩ : ∃ who, who = o.who := ⟨_, rfl⟩
        rw [← hwho] at c1
        have HBO : Hid (o.Ok ∧ o.bs.length ≤ 4194304 ∧ (∀ w', Below w.heap.size wr w' → By w' o.b o.bs)) := ⟨⟨(HO.out o hom).1, Nat.le_trans (HFT.out.2.1 o hom) (by decide)⟩, HFT.out.2.1 o hom, fun w' h' => ((HS.out w' (hb.trans h')).by' o hom).1⟩
        have HSO : Hid (∀ (R : List (Ent w.heap.size)) (w' : World), Below w.heap.size wr w' → Scr w.heap.size R w' (.slice (some ⟨g, f + i * 5, none⟩) 1 (cap - i)) [o]) := fun R w' h' => scr_more (scr_one (HS.out w' (hb.trans h')) ho)
        have HST : Hid (PX w.heap.size (.pointer po) i es ∧ PX w.heap.size (.pointer qo) i fs ∧ Held (es ++ fs) wr ∧ Below w.heap.size w wr) := ⟨hP, hQ, hH, hb⟩
        have HWC : Hid (∀ w', Below w.heap.size wr w' → w'.cell? ⟨g, f + i * 5 + 1, none⟩ = some (.int .i64 who)) := fun w' h' => by
          obtain ⟨g', f', cap2, hve', _, c1', _⟩ := (HS.out w' (hb.trans h')).cl i o ho
          cases hve'
          rw [hwho]
          exact c1'
        clear hwho hsc hve hom ho c0 c2 c3 c4 hb hH
        by_cases hw : who.tmod 2 = 0
        · rcases opt_ptr hP with e | ⟨pb, e⟩
          · subst e
            clear hP hQ
            go_wp2_with fail
            go_roundw
            case rel => exact ⟨i + 1, by omega, by go_num, es, fs, HST.out.1.more (by omega), HST.out.2.1.more (by omega), HST.out.2.2.1, HST.out.2.2.2⟩
            case measure => simp [intOf]; omega
          · subst e
            have HPL : Hid _ := px_play (R := fs) wr hP HST.out.2.2.1 (fun w' h' _ => HSO.out fs w' h') HBO.out.1 HBO.out.2.2 HBO.out.2.1 (by omega)
            clear hP hQ
            go_wp2_with fail
            refine Calls.mono HPL.out ?_
            rintro e w5 ⟨rfl, es', hP', hH', hb'⟩
            clear HPL
            have HST' : Hid (PX w.heap.size (.pointer (some ⟨pb, 0, none⟩)) (i + 1) es' ∧ PX w.heap.size (.pointer qo) (i + 1) fs ∧ Held (es' ++ fs) w5 ∧ Below w.heap.size w w5) := ⟨hP', HST.out.2.1.more (by omega), hH', HST.out.2.2.2.trans hb'⟩
            have hsc := HS.out w5 HST'.out.2.2.2
            have hB5 := HST.out.2.2.2
            have c1' : w5.cell? ⟨g, f + i * 5 + 1, none⟩ = some (.int .i64 who) := HWC.out w5 hb'
            have hix5 := idx_run 51 58 5 Try.underlying51 (by kernel_rfl) w5 g f N cap i hlt
            clear HST hP' hH' hb' hsc hB5 c1 hix
            go_wp2_with fail
            go_roundw
            case rel => exact ⟨i + 1, by omega, by go_num, es', fs, HST'.out⟩
            case measure => simp [intOf]; omega
        · rcases opt_ptr hQ with e | ⟨pb, e⟩
          · subst e
            clear hP hQ
            go_wp2_with fail
            go_roundw
            case rel => exact ⟨i + 1, by omega, by go_num, es, fs, HST.out.1.more (by omega), HST.out.2.1.more (by omega), HST.out.2.2.1, HST.out.2.2.2⟩
            case measure => simp [intOf]; omega
          · subst e
            have HPL : Hid _ := px_play (R := es) wr hQ (HST.out.2.2.1.perm List.perm_append_comm) (fun w' h' _ => HSO.out es w' h') HBO.out.1 HBO.out.2.2 HBO.out.2.1 (by omega)
            clear hP hQ
            go_wp2_with fail
            refine Calls.mono HPL.out ?_
            rintro e w5 ⟨rfl, fs', hQ', hH', hb'⟩
            clear HPL
            have HST' : Hid (PX w.heap.size (.pointer po) (i + 1) es ∧ PX w.heap.size (.pointer (some ⟨pb, 0, none⟩)) (i + 1) fs' ∧ Held (es ++ fs') w5 ∧ Below w.heap.size w w5) := ⟨HST.out.1.more (by omega), hQ', hH'.perm List.perm_append_comm, HST.out.2.2.2.trans hb'⟩
            clear HST hQ' hH' hb' c1 hix
            go_wp2_with fail
            go_roundw
            case rel => exact ⟨i + 1, by omega, by go_num, es, fs', HST'.out⟩
            case measure => simp [intOf]; omega
      · have hin : ¬ ((i : Int) < (N : Int)) := by omega
        have HBW : Hid (Below w.heap.size w wr) := hb
        clear hb
        rcases opt_ptr hP with e | ⟨pb, e⟩
        · subst e
          have hes : es = [] := by
            rcases hP with ⟨_, e⟩ | ⟨_, _, _, _, _, _, _, _, _, _, _, _, e, _⟩
            · exact e
            · cases e
          rw [hes] at hH
          rcases opt_ptr hQ with e | ⟨qb, e⟩
          · subst e
            clear hP hQ hH hes
            go_wp2_with fail
            go_ret
            exact ⟨rfl, HBW.out⟩
          · subst e
            have HA : Hid _ := px_apart (R := []) wr hQ (by rw [List.append_nil]; exact hH)
            clear hP hQ hH hes
            go_wp2_with fail
            refine Calls.mono HA.out ?_
            rintro e w6 ⟨rfl, hb6, _⟩
            have HF : Hid (Below w.heap.size w w6) := HBW.out.trans hb6
            clear HA hb6
            go_wp2_with fail
            go_ret
            exact ⟨rfl, HF.out⟩
        · subst e
          have HA : Hid _ := px_apart (R := fs) wr hP hH
          rcases opt_ptr hQ with e | ⟨qb, e⟩
          · subst e
            clear hP hQ hH
            go_wp2_with fail
            refine Calls.mono HA.out ?_
            rintro e w6 ⟨rfl, hb6, _⟩
            have HF : Hid (Below w.heap.size w w6) := HBW.out.trans hb6
            clear HA hb6
            go_wp2_with fail
            go_ret
            exact ⟨rfl, HF.out⟩
          · subst e
            have HQ : Hid (PX w.heap.size (.pointer (some ⟨qb, 0, none⟩)) i fs) := hQ
            clear hP hQ hH
            go_wp2_with fail
            refine Calls.mono HA.out ?_
            rintro e w6 ⟨rfl, hb6, hH6⟩
            have HF : Hid (Below w.heap.size w w6) := HBW.out.trans hb6
            have HA2 : Hid _ := px_apart (R := []) w6 HQ.out (by rw [List.append_nil]; exact hH6)
            clear HA hb6 hH6
            go_wp2_with fail
            refine Calls.mono HA2.out ?_
            rintro e w7 ⟨rfl, hb7, _⟩
            have HF2 : Hid (Below w.heap.size w w7) := HF.out.trans hb7
            clear HA2 hb7
            go_wp2_with fail
            go_ret
            exact ⟨rfl, HF2.out⟩
end Go.Proofs.Yteoecjfaboideaa
