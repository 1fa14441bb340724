import Derived.Test.YtlajcaofpmjdlaaTk2
import Derived.Deep.Cut
namespace Go.Proofs.Ytlajcaofpmjdlaa
open Go.RowKit Go.PlainAid
set_option linter.unusedVariables false
set_option linter.unusedSimpArgs false
theorem by_nil (w : World) : By w (.slice none 0 0) [] := ⟨none, 0, 0, rfl, rfl, fun _ => ⟨rfl, rfl⟩, fun ad e => by cases e⟩
section
variable {L pb p s rb : Nat} {R : List (Ent L)} {W : World}
/-- tells of the kinds 5 to 10. -/
theorem telc_any (o : OpV) (h5 : 5 ≤ o.kind) (h10 : o.kind ≤ 10) : TelC L pb p s rb R W o := by
  intro S fv lv lent n zs x r w _ hp hk hn ha hx
  obtain ⟨k, who, oN, oM, b, bs⟩ := o
  have h5 : 5 ≤ k := h5
  have h10 : k ≤ 10 := h10
  rcases (by omega : k = 5 ∨ k = 6 ∨ k = 7 ∨ k = 8 ∨ k = 9 ∨ k = 10) with e | e | e | e | e | e
  · subst e; exact tells_read who oN oM w hp hk hn ha hx
  · subst e; exact tells_ison who oN oM w hp hk hn ha hx
  · subst e; exact tells_sectors who oN oM w hp hk hn ha hx
  · subst e; exact tells_writes who oN oM w hp hk hn ha hx
  · subst e; exact tells_trace who oN oM w hp hk hn ha hx
  · subst e; exact tells_image who oN oM w hp hk hn ha hx
end
def alOs (v15 v17 : Value) : List OpV := [⟨2, 0, 1, 5, .slice none 0 0, []⟩, ⟨1, 0, 1, 0, v15, fullL 65⟩, ⟨1, 0, 1, 0, v17, fullL 66⟩, ⟨6, 0, 0, 0, .slice none 0 0, []⟩, ⟨4, 0, 0, 0, .slice none 0 0, []⟩, ⟨5, 0, 1, 0, .slice none 0 0, []⟩, ⟨7, 0, 0, 0, .slice none 0 0, []⟩, ⟨8, 0, 0, 0, .slice none 0 0, []⟩, ⟨9, 0, 0, 0, .slice none 0 0, []⟩, ⟨10, 0, 0, 0, .slice none 0 0, []⟩]
def oc (k n m : Int) (b : Value) : List Value := [.int .i64 k, .int .i64 0, .int .i64 n, .int .i64 m, b]
def alCs (v15 v17 : Value) : Array Value := #[.int .i64 2, .int .i64 0, .int .i64 1, .int .i64 5, .slice none 0 0, .int .i64 1, .int .i64 0, .int .i64 1, .int .i64 0, v15, .int .i64 1, .int .i64 0, .int .i64 1, .int .i64 0, v17, .int .i64 6, .int .i64 0, .int .i64 0, .int .i64 0, .slice none 0 0, .int .i64 4, .int .i64 0, .int .i64 0, .int .i64 0, .slice none 0 0, .int .i64 5, .int .i64 0, .int .i64 1, .int .i64 0, .slice none 0 0, .int .i64 7, .int .i64 0, .int .i64 0, .int .i64 0, .slice none 0 0, .int .i64 8, .int .i64 0, .int .i64 0, .int .i64 0, .slice none 0 0, .int .i64 9, .int .i64 0, .int .i64 0, .int .i64 0, .slice none 0 0, .int .i64 10, .int .i64 0, .int .i64 0, .int .i64 0, .slice none 0 0]
theorem al_scr {L q : Nat} {v15 v17 : Value} {w : World} (h : Held [boxE L q (alCs v15 v17) 58, datE L (v17, fullL 66), datE L (v15, fullL 65)] w) : Scr L [boxE L q (alCs v15 v17) 58, datE L (v17, fullL 66), datE L (v15, fullL 65)] w (.slice (some ⟨q, 0, none⟩) 10 10) (alOs v15 v17) := by
  have hB : Blk w q (alCs v15 v17) 58 := h.boxB
  have h7 : w.ownsRow L 5 1 v17 (fullL 66).length ((fullL 66).map B) := h.all (datE L (v17, fullL 66)) (by simp)
  have h5 : w.ownsRow L 5 1 v15 (fullL 65).length ((fullL 65).map B) := h.all (datE L (v15, fullL 65)) (by simp)
  refine ⟨⟨_, _, rfl⟩, fun i o ho => ?_, fun o ho => ?_⟩
  · have hi : i < 10 := (List.getElem?_eq_some_iff.1 ho).1
    rcases (by omega : i = 0 ∨ i = 1 ∨ i = 2 ∨ i = 3 ∨ i = 4 ∨ i = 5 ∨ i = 6 ∨ i = 7 ∨ i = 8 ∨ i = 9) with e | e | e | e | e | e | e | e | e | e <;> subst e <;> cases ho <;> exact ⟨q, 0, 10, rfl, hB.cell _, hB.cell _, hB.cell _, hB.cell _, hB.cell _⟩
  · have hnil : By w (.slice none 0 0) [] ∧ ∀ ad k c, (Value.slice none 0 0) = .slice (some ad) k c → 0 < k → ad.block < L ∨ has [boxE L q (alCs v15 v17) 58, datE L (v17, fullL 66), datE L (v15, fullL 65)] ad.block := ⟨by_nil w, fun ad k c e => by cases e⟩
    simp only [alOs, List.mem_cons, List.not_mem_nil, or_false] at ho
    rcases ho with e | e | e | e | e | e | e | e | e | e <;> subst e
    · exact hnil
    · exact ⟨own_by h5, fun ad k c e _ => Or.inr ⟨datE L (v15, fullL 65), by simp, by show v15.ownBlock = _; have e : v15 = _ := e; rw [e]; rfl⟩⟩
    · exact ⟨own_by h7, fun ad k c e _ => Or.inr ⟨datE L (v17, fullL 66), by simp, by show v17.ownBlock = _; have e : v17 = _ := e; rw [e]; rfl⟩⟩
    all_goals exact hnil
set_option maxRecDepth 100000 in
set_option maxHeartbeats 6400000 in
theorem alive_yes (w : World) : Calls Try.prog 29 #[] w fun e w' => e = .returned (.bool true) ∧ Below w.heap.size w w' := by
  have HM : Hid _ := made_yes (L := w.heap.size) (R := []) 2 w ⟨by decide, by decide⟩ ⟨(fun e he => by cases he), List.Pairwise.nil⟩ (Nat.le_refl _)
  go_enter Try.func29, Try.ntmps29
  go_wp2_with fail
  refine Calls.mono HM.out ?_
  rintro e w1 ⟨pb, p, s, rb, rfl, hp1, hb1⟩
  clear HM
  have H1 : Hid (PA w.heap.size pb p s rb sv0 (.slice none 0 0) (.slice none 0 0) (.slice none 0 0) 0 [] (fresh 2) (rfresh 2 []) [] w1 ∧ Below w.heap.size w w1) := ⟨hp1, hb1⟩
  clear hp1 hb1
  have HU1 : Hid (Calls Try.prog 12 #[.int .u8 65] w1 fun e w' => ∃ v', e = .returned v' ∧ w'.ownsRow w1.heap.size 5 1 v' 512 ((fullL 65).map B) ∧ Below w1.heap.size w1 w') := full_any 65 w1
  go_wp2_with fail
  refine Calls.mono HU1.out ?_
  rintro e w2 ⟨v15, rfl, hr2, hb2⟩
  clear HU1
  obtain ⟨ao5, c5, hv5, _⟩ := own_slice hr2
  subst hv5
  have H2 : Hid (w2.ownsRow w1.heap.size 5 1 (.slice ao5 512 c5) 512 ((fullL 65).map B) ∧ Below w1.heap.size w1 w2) := ⟨hr2, hb2⟩
  clear hr2 hb2
  have HU2 : Hid (Calls Try.prog 12 #[.int .u8 66] w2 fun e w' => ∃ v', e = .returned v' ∧ w'.ownsRow w2.heap.size 5 1 v' 512 ((fullL 66).map B) ∧ Below w2.heap.size w2 w') := full_any 66 w2
  go_wp2_with fail
  refine Calls.mono HU2.out ?_
  rintro e w3 ⟨v17, rfl, hr3, hb3⟩
  clear HU2
  obtain ⟨ao7, c7, hv7, _⟩ := own_slice hr3
  subst hv7
  have H3 : Hid (w3.ownsRow w2.heap.size 5 1 (.slice ao7 512 c7) 512 ((fullL 66).map B) ∧ Below w2.heap.size w2 w3) := ⟨hr3, hb3⟩
  clear hr3 hb3
  obtain ⟨q, hq⟩ : ∃ q, q = w3.heap.size := ⟨_, rfl⟩
  obtain ⟨X, hX⟩ : ∃ X, X = w3.alloc (.cells (alCs (.slice ao5 512 c5) (.slice ao7 512 c7)) 58) := ⟨_, rfl⟩
  have HPL : Hid (Calls Try.prog 32 #[.pointer (some ⟨pb, 0, none⟩), .slice (some ⟨q, 0, none⟩) 10 10, .int .i64 5, .int .i64 11] X fun e w' => e = .returned (.bool true) ∧ Below w.heap.size w w') := by
    have hl5 : (fullL 65).length = 512 := by unfold fullL; simp
    have hl7 : (fullL 66).length = 512 := by unfold fullL; simp
    have hL1 : w.heap.size ≤ w1.heap.size := H1.out.2.size
    have hL2 : w.heap.size ≤ w2.heap.size := Nat.le_trans hL1 H2.out.2.size
    have hL3 : w.heap.size ≤ w3.heap.size := Nat.le_trans hL2 H3.out.2.size
    have a1 := Held.fresh (e := datE w.heap.size (.slice ao5 512 c5, fullL 65)) H1.out.1 H2.out.2 (by show World.ownsRow _ _ _ _ _ (fullL 65).length _; rw [hl5]; exact ownsRow_mono H2.out.1 hL1) (fun k hk => (ownsRow_lt H2.out.1 hk).1)
    have a2 := Held.fresh (e := datE w.heap.size (.slice ao7 512 c7, fullL 66)) a1 H3.out.2 (by show World.ownsRow _ _ _ _ _ (fullL 66).length _; rw [hl7]; exact ownsRow_mono H3.out.1 hL2) (fun k hk => (ownsRow_lt H3.out.1 hk).1)
    have hbX : Below w3.heap.size w3 X := by rw [hX]; exact (Below.refl _ _).alloc (Nat.le_refl _) _
    have a3 := Held.fresh (e := boxE w.heap.size q (alCs (.slice ao5 512 c5) (.slice ao7 512 c7)) 58) a2 hbX ⟨by rw [hX, hq]; exact heap_alloc_new w3 _, by rw [hq]; exact hL3⟩ (fun k hk => by rw [show k = q from hk, hq]; exact Nat.le_refl _)
    have a4 : PA w.heap.size pb p s rb sv0 (.slice none 0 0) (.slice none 0 0) (.slice none 0 0) 0 [] (fresh 2) (rfresh 2 []) [boxE w.heap.size q (alCs (.slice ao5 512 c5) (.slice ao7 512 c7)) 58, datE w.heap.size (.slice ao7 512 c7, fullL 66), datE w.heap.size (.slice ao5 512 c5, fullL 65)] X := by
      refine Held.perm a3 ?_
      exact List.perm_append_comm (l₁ := [boxE w.heap.size q (alCs (.slice ao5 512 c5) (.slice ao7 512 c7)) 58, datE w.heap.size (.slice ao7 512 c7, fullL 66), datE w.heap.size (.slice ao5 512 c5, fullL 65)]) (l₂ := boxE w.heap.size pb (sv0.cs (.pointer (some ⟨p, 0, none⟩)) (.pointer (some ⟨rb, 0, none⟩)) (.slice none 0 0) 0) 66 :: (sv0.rows w.heap.size ++ (sv0.data w.heap.size ++ [dmE w.heap.size p s (fresh 2), rdE w.heap.size rb (.slice none 0 0) (.slice none 0 0) (rfresh 2 []), datE w.heap.size (.slice none 0 0, [])])))
    have hbw : Below w.heap.size w X := ((H1.out.2.trans (H2.out.2.mono hL1)).trans (H3.out.2.mono hL2)).trans (hbX.mono hL3)
    have hm : Mid w.heap.size pb p s rb [boxE w.heap.size q (alCs (.slice ao5 512 c5) (.slice ao7 512 c7)) 58, datE w.heap.size (.slice ao7 512 c7, fullL 66), datE w.heap.size (.slice ao5 512 c5, fullL 65)] X 0 0 X := ⟨sv0, _, _, _, 0, [], _, _, Nat.le_refl _, sv0_ok 0, AgD.new 2, Nat.le_refl _, a4, Below.refl _ _⟩
    refine (plays_any (os := alOs (.slice ao5 512 c5) (.slice ao7 512 c7)) 5 11 X 0 0 hm (fun w' _ hR => al_scr hR) ?_ ?_ (by show 0 + 10 ≤ 10000; decide) (by show 0 + 10 ≤ 1000; decide)).mono ?_
    · intro o ho
      simp only [alOs, List.mem_cons, List.not_mem_nil, or_false] at ho
      rcases ho with e | e | e | e | e | e | e | e | e | e <;> subst e <;> (refine ⟨by first | decide | (show (1 : Int) ≤ 9223372036854775807; decide), ?_⟩) <;> first | (show (fullL _).length ≤ _; unfold fullL; simp) | exact Nat.zero_le _
    · intro o ho h5 _
      refine telc_any o h5 ?_
      simp only [alOs, List.mem_cons, List.not_mem_nil, or_false] at ho
      rcases ho with e | e | e | e | e | e | e | e | e | e <;> subst e <;> first | decide | (show (1 : Int) ≤ 10; decide)
    · rintro e w' ⟨rfl, S, fv, lv, lent, n, zs, x, r, _, _, _, _, _, hb⟩
      exact ⟨rfl, hbw.trans hb⟩
  have HX : Hid (X = w3.alloc (.cells (alCs (.slice ao5 512 c5) (.slice ao7 512 c7)) 58) ∧ q = w3.heap.size) := ⟨hX, hq⟩
  clear hX hq H1 H2 H3
  go_wp2_with fail
  have hc := HPL.out
  rw [HX.out.1, HX.out.2] at hc
  refine Calls.mono hc ?_
  rintro e w4 ⟨rfl, hb4⟩
  have HF : Hid (Below w.heap.size w w4) := hb4
  clear hc HPL HX hb4
  go_wp2_with fail
  go_ret
  exact ⟨rfl, HF.out⟩
end Go.Proofs.Ytlajcaofpmjdlaa
