import Derived.Test.YtbjlaloofpdbfaaOrdC
namespace Go.Proofs.Ytbjlaloofpdbfaa
open Go.RowKit Go.PlainAid Go.Sort
set_option linter.unusedVariables false
set_option linter.unusedSimpArgs false
set_option maxRecDepth 100000 in
set_option maxHeartbeats 1600000 in
theorem sortedC_any (Bm mb : Nat) (L : List ((Int × Int) × OpA)) (w : World) (hc : w.cell? ⟨Bm, 0, none⟩ = some (.map (some mb))) (hM : HMap MC w mb L) (hL : L.length ≤ 100000) :
    Calls Try.prog 33 #[.func (.func 49) #[] #[.pointer (some ⟨Bm, 0, none⟩)], .func (.func 35) #[] #[]] w fun e W' => ∃ v ys, e = .returned v ∧ ys.Perm (L.map (·.1)) ∧ ys.Pairwise (fun a b => ltC b a = false) ∧ W'.ownsRow w.heap.size 37 2 v ys.length (flatC ys) ∧ Below w.heap.size w W' := by
  have HA : Hid _ := colC_any Bm mb L w hc hM hL
  clear hc hM
  go_enter Try.func33, Try.ntmps33
  go_wp2_with fail
  refine Calls.mono HA.out ?_
  rintro e w2 ⟨v, ys, rfl, hp, hr, hb⟩
  have hlen : ys.length ≤ 100000 := by rw [hp.length_eq, List.length_map]; exact hL
  have HB : Hid _ := hb
  clear HA hb
  rcases hr.2 with ⟨hv, h0⟩ | ⟨g, cap, cur, hv, hg, _⟩
  · subst hv
    have h0' : ys = [] := List.length_eq_zero_iff.1 h0
    subst h0'
    have HS : Hid _ := sortC_none none 0 w2
    have HP : Hid (List.Perm [] (L.map (·.1))) := hp
    clear hr hp h0 hlen
    go_wp2_with fail
    refine Calls.mono HS.out ?_
    rintro e w3 ⟨rfl, hw3⟩
    replace hw3 := hw3.symm
    subst hw3
    go_wp2_with fail
    go_ret
    exact ⟨_, [], rfl, HP.out, List.Pairwise.nil, World.ownsRow_nil _ _ _ _, HB.out⟩
  · subst hv
    have HS : Hid _ := sortC_any (L := w.heap.size) rfl hlen hr
    have HP : Hid (ys.Perm (L.map (·.1))) := hp
    have HG : Hid (w.heap.size ≤ g) := hg
    clear hr hp hlen hg
    go_wp2_with fail
    refine Calls.mono HS.out ?_
    rintro e w3 ⟨rfl, ds, hd1, hd2, hd3, hd4⟩
    have HD1 : Hid (ds.Perm ys) := hd1
    have HD2 : Hid (ds.Pairwise fun a b => ltC b a = false) := hd2
    have HD3 : Hid (World.ownsRow w3 w.heap.size 37 2 (.slice (some ⟨g, 0, none⟩) ys.length cap) ys.length (flatC ds)) := hd3
    have HD4 : Hid (Below w.heap.size w w3) := HB.out.trans (hd4.below HB.out.size (fun k e => by rw [e]; exact HG.out))
    clear hd1 hd2 hd3 hd4 HS
    go_wp2_with fail
    go_ret
    exact ⟨_, ds, rfl, HD1.out.trans HP.out, HD2.out, by rw [HD1.out.length_eq]; exact HD3.out, HD4.out⟩
set_option maxRecDepth 100000 in
set_option maxHeartbeats 1600000 in
theorem asked_any {hb mh mw : Nat} {me rep per : Int} {KN : List (List UInt8 × Int)} {WT : List ((Int × Int) × OpA)} (w : World) (hT : Tb hb mh mw me rep per KN WT w) (hL : WT.length ≤ 100000) :
    Calls Try.prog 20 #[.pointer (some ⟨hb, 0, none⟩)] w fun e W' => ∃ v ys, e = .returned v ∧ ys.Perm (WT.map (·.1)) ∧ ys.Pairwise (fun a b => ltC b a = false) ∧ W'.ownsRow w.heap.size 37 2 v ys.length (flatC ys) ∧ Below w.heap.size w W' := by
  have c4 := hT.c4
  have HK : Hid (∀ w, _) := fun w => keysC_any mw w
  have hb1 : Below w.heap.size w (w.alloc (.cells #[.map (some mw)] 70)) := (Below.refl _ _).alloc (Nat.le_refl _) _
  have hB : Blk (w.alloc (.cells #[.map (some mw)] 70)) w.heap.size #[.map (some mw)] 70 := heap_alloc_new w _
  have HS : Hid _ := sortedC_any w.heap.size mw WT (w.alloc (.cells #[.map (some mw)] 70)) (hB.cell 0) (hT.wm.same (hb1.block mw hT.wm.lt)) hL
  have HB1 : Hid _ := hb1
  clear hb1 hB hT
  go_enter Try.func20, Try.ntmps20
  go_wp2_with fail
  refine Calls.mono (HK.out _) ?_
  rintro e w1 ⟨rfl, hw1⟩
  subst hw1
  clear HK
  go_wp2_with fail
  refine Calls.mono HS.out ?_
  rintro e w2 ⟨v, ys, rfl, h1, h2, h3, h4⟩
  have H1 : Hid (ys.Perm (WT.map (·.1))) := h1
  have H2 : Hid (ys.Pairwise fun a b => ltC b a = false) := h2
  have H3 : Hid (World.ownsRow w2 w.heap.size 37 2 v ys.length (flatC ys)) := ownsRow_mono h3 (by simp)
  have H4 : Hid (Below w.heap.size w w2) := HB1.out.trans (h4.mono HB1.out.size)
  clear h1 h2 h3 h4 HS
  go_wp2_with fail
  go_ret
  exact ⟨v, ys, rfl, H1.out, H2.out, H3.out, H4.out⟩
end Go.Proofs.Ytbjlaloofpdbfaa
