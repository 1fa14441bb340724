import Derived.Test.YtjpdcahodmomgaaJn12
namespace Go.Proofs.Ytjpdcahodmomgaa
open Go.RowKit Go.PlainAid
set_option linter.unusedVariables false
set_option linter.unusedSimpArgs false
def mk2 : List UInt8 := [165, 90]
set_option maxRecDepth 100000 in
set_option maxHeartbeats 1600000 in
theorem lent_any {v : Value} {s : List UInt8} (w : World) (h : By w v s) (hs : s.length ≤ 140737488355300) :
    Calls Try.prog 15 #[v] w fun e w' => ∃ g c, e = .returned (.slice (some ⟨g, 0, none⟩) (s.length + 2) c) ∧ s.length + 2 ≤ c ∧ w'.ownsRow w.heap.size 5 1 (.slice (some ⟨g, 0, none⟩) (s.length + 2) c) (s.length + 2) ((s ++ mk2).map B) ∧ Below w.heap.size w w' := by
  obtain ⟨ao, n, cap, rfl, hn, h0, hc⟩ := h
  obtain ⟨v1, w1, hr1, ho1, hg1⟩ := app_rows (w := w) 38 5 (.int .u8 0) 1 1 Try.underlying38 info5' rfl (by decide) (by decide) (World.ownsRow_nil w w.heap.size 5 1) (ao := ao) (m := n) (cap := cap) (ys := s.map B) (by simp [hn]) h0 hc (oneB s) (by omega) (Nat.le_refl _)
  have HHR : Hid (∀ ty, (Builtin.append_ #[38, 38] ty #[.slice none 0 0, .slice ao n cap]).run Try.prog w = .ok v1 w1) := hr1
  rw [Nat.zero_add, List.nil_append] at ho1
  have hb1 : Below w.heap.size w w1 := hg1.below (fun q hq => by cases hq) (Nat.le_refl _)
  obtain ⟨v2, w2, hr2, ho2, hg2⟩ := app_bytesB ho1 hb1.size mk2 (by show n + 2 ≤ _; omega)
  have hr2' : ∀ ty, (Builtin.append_ #[38, 38] ty #[v1, .slice (some ⟨w1.heap.size, 0, none⟩) 2 2]).run Try.prog (w1.alloc (.cells #[.int .u8 165, .int .u8 90] 5)) = .ok v2 w2 := hr2
  have HR2 : Hid _ := hr2'
  rw [← List.map_append] at ho2
  obtain ⟨g, c, hv2, hgc⟩ : ∃ g c, v2 = .slice (some ⟨g, 0, none⟩) (n + 2) c ∧ n + 2 ≤ c := by
    obtain ⟨ao, cc, e1, e2⟩ := own_slice ho2
    rcases id ho2.2 with ⟨e3, e4⟩ | ⟨g, c, cur, e3, _⟩
    · exact absurd e4 (Nat.succ_ne_zero _)
    · rw [e3] at e1
      cases e1
      exact ⟨g, _, e3, e2⟩
  have HF : Hid (w2.ownsRow w.heap.size 5 1 v2 (n + 2) ((s ++ mk2).map B) ∧ Below w.heap.size w w2 ∧ v2 = .slice (some ⟨g, 0, none⟩) (n + 2) c ∧ n + 2 ≤ c) := ⟨ho2, hb1.trans (hg2.below (fun q hq => (ownsRow_lt ho1 hq).1) hb1.size), hv2, hgc⟩
  obtain ⟨vo1, vc1, hv1, _⟩ := own_slice ho1
  rw [hn]
  subst hv2
  subst hv1
  clear hn hc h0 hs hr1 ho1 hg1 hb1 hr2 hr2' ho2 hg2 hgc
  go_enter Try.func15, Try.ntmps15
  go_wp2_with (at_builtin; first | refine wpList_runs rfl _ _ 38 rfl rfl rfl HHR.out ?_ | refine wpList_runs rfl _ _ 38 rfl rfl rfl HR2.out ?_)
  go_ret
  exact ⟨g, c, rfl, HF.out.2.2.2, by first | exact HF.out.1 | (have := HF.out.1; rw [List.map_append] at this; exact this), HF.out.2.1⟩
theorem slice38h (g o len cap m : Nat) (h : m ≤ cap) (w : World) : (Instr.sliceAt 38 (.slice (some ⟨g, o, none⟩) len cap) none (some (.int .i64 (m : Int))) none).run Try.prog w = .ok (.slice (some ⟨g, o, none⟩) m cap) w := by
  have hs : (sizeOf 5).run Try.prog w = .ok 1 w := by kernel_rfl
  have he : Try.prog.elem 38 = 5 := by kernel_rfl
  have hu2 : Try.prog.underlying 38 = some (.slice (Try.prog.elem 38)) := by rw [he]; exact Try.underlying38
  rw [run_sliceAt_slice _ _ _ _ _ _ hu2, run_slice_h _ _ _ _ _ hu2 .i64 (m : Int) (by omega) (by omega), he, hs]
  simp [Result.andThen, sliced, Addr.add]
theorem own_front {w : World} {L n m : Nat} {g c : Nat} {xs ys : List UInt8} (h : w.ownsRow L 5 1 (.slice (some ⟨g, 0, none⟩) n c) n ((xs ++ ys).map B)) (hx : xs.length = m) : By w (.slice (some ⟨g, 0, none⟩) m c) xs := by
  refine ⟨_, _, _, rfl, hx, (fun e => by cases e), fun ad e j u hu => ?_⟩
  cases e
  refine h.cells (g := g) rfl j u ?_
  rw [List.map_append, List.getElem?_append_left]
  · exact hu
  · exact (List.getElem?_eq_some_iff.1 hu).1
set_option maxRecDepth 100000 in
set_option maxHeartbeats 1600000 in
theorem back_any {L g c n : Nat} {v : Value} {bs : List UInt8} (w : World) (hr : w.ownsRow L 5 1 (.slice (some ⟨g, 0, none⟩) (n + 2) c) (n + 2) ((bs ++ mk2).map B)) (hc : n + 2 ≤ c) (hb : By w v bs) (hl : bs.length = n) (hn : n ≤ 140737488355300) :
    Calls Try.prog 17 #[.slice (some ⟨g, 0, none⟩) (n + 2) c, v] w fun e w' => e = .returned (.bool true) ∧ (∃ zs : List UInt8, w'.ownsRow L 5 1 (.slice (some ⟨g, 0, none⟩) (n + 2) c) (n + 2) (zs.map B)) ∧ Chg (fun k => k = g) w w' := by
  obtain ⟨ao, n2, cap, rfl, hn2, _, _⟩ := id hb
  obtain rfl : n2 = n := by omega
  have HS : Hid (Calls Try.prog 27 #[.slice (some ⟨g, 0, none⟩) n2 c, .slice ao n2 cap] w fun e w' => e = .returned (.bool true) ∧ w' = w) := by
    have h1 := same_any w (v := .slice (some ⟨g, 0, none⟩) n2 c) (u := .slice ao n2 cap) (xs := bs) (ys := bs) (own_front hr hl) hb
    rw [beq_self_eq_true] at h1
    exact h1
  have hsl : ∀ W, (Instr.sliceAt 38 (.slice (some ⟨g, 0, none⟩) (n2 + 2) c) none (some (.int .i64 (n2 : Int))) none).run Try.prog W = .ok (.slice (some ⟨g, 0, none⟩) n2 c) W := fun W => slice38h g 0 (n2 + 2) c n2 (by omega) W
  have hcell : ∀ j (u : UInt8), (bs ++ mk2)[j]? = some u → w.cell? ⟨g, j, none⟩ = some (B u) := fun j u hu => by
    have := hr.cells (g := g) rfl j (B u) (by rw [List.getElem?_map, hu]; rfl)
    rwa [addr_add, Nat.zero_add] at this
  have k0 : w.cell? ⟨g, n2, none⟩ = some (.int .u8 165) := hcell n2 165 (by rw [List.getElem?_append_right (by omega), hl, Nat.sub_self]; rfl)
  have k1 : w.cell? ⟨g, n2 + 1, none⟩ = some (.int .u8 90) := hcell (n2 + 1) 90 (by rw [List.getElem?_append_right (by omega), hl, show n2 + 1 - n2 = 1 by omega]; rfl)
  have HR1 : Hid (∃ zs : List UInt8, w.ownsRow L 5 1 (.slice (some ⟨g, 0, none⟩) (n2 + 2) c) (n2 + 2) (zs.map B)) := ⟨_, hr⟩
  clear hr hb hcell hl hn2
  go_enter Try.func17, Try.ntmps17
  go_wp2_with fail
  refine Calls.mono HS.out ?_
  rintro e wo ⟨rfl, hwo⟩
  replace hwo := hwo.symm
  subst hwo
  clear HS
  go_wp2_with fail
  clear k0 k1 hsl
  go_loopw [7] (fun s7 wr => ∃ i : Nat, i ≤ n2 + 2 ∧ s7 = .int .i64 (i : Int) ∧ (∃ zs : List UInt8, wr.ownsRow L 5 1 (.slice (some ⟨g, 0, none⟩) (n2 + 2) c) (n2 + 2) (zs.map B)) ∧ Chg (fun k => k = g) w wr) (fun s7 _ => n2 + 2 - (intOf s7).toNat)
  case atStart => exact ⟨0, Nat.zero_le _, rfl, HR1.out, Chg.refl _ _⟩
  case round =>
    clear HR1
    obtain ⟨i, hi, rfl, ⟨zs, hz⟩, hch⟩ := hrel
    have hzl : zs.length = n2 + 2 := by have := hz.1; simpa using this
    by_cases hlt : i < n2 + 2
    · have hx : wr.cell? ⟨g, i, none⟩ = some (B (zs[i]'(by omega))) := by
        have := hz.cells (g := g) rfl i (B (zs[i]'(by omega))) (by rw [List.getElem?_map, List.getElem?_eq_getElem (by omega)]; rfl)
        rwa [addr_add, Nat.zero_add] at this
      obtain ⟨h5, hf⟩ := own_setB (k := i) hz 85
      have h5' : (wr.setCell ⟨g, i, none⟩ (.int .u8 85)).ownsRow L 5 1 (.slice (some ⟨g, 0, none⟩) (n2 + 2) c) (n2 + 2) ((zs.set i 85).map B) := h5
      have HN : Hid ((∃ zs : List UInt8, (wr.setCell ⟨g, i, none⟩ (.int .u8 85)).ownsRow L 5 1 (.slice (some ⟨g, 0, none⟩) (n2 + 2) c) (n2 + 2) (zs.map B)) ∧ Chg (fun k => k = g) w (wr.setCell ⟨g, i, none⟩ (.int .u8 85))) := ⟨⟨_, h5'⟩, hch.trans (setCell_chg _ _ _ _) (fun _ _ e => e)⟩
      have hlti : (i : Int) < ((n2 + 2 : Nat) : Int) := by omega
      clear hz hch h5 h5'
      go_wp2_with fail
      go_roundw
      case rel => exact ⟨i + 1, by omega, by go_num, HN.out.1, HN.out.2⟩
      case measure => simp [intOf]; omega
    · have HF : Hid ((∃ zs : List UInt8, wr.ownsRow L 5 1 (.slice (some ⟨g, 0, none⟩) (n2 + 2) c) (n2 + 2) (zs.map B)) ∧ Chg (fun k => k = g) w wr) := ⟨⟨zs, hz⟩, hch⟩
      clear hz hch hzl
      go_wp2_with fail
      go_ret
      exact ⟨rfl, HF.out.1, HF.out.2⟩
end Go.Proofs.Ytjpdcahodmomgaa
