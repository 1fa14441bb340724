import Derived.Test.YtjmbhaoehfdpoaaDoorJoinG
import Derived.Test.YtjmbhaoehfdpoaaDoorJoinC
import Derived.Deep.Cut
import Derived.Test.YtjmbhaoehfdpoaaDoorCards
import Derived.Test.YtjmbhaoehfdpoaaDoorTie
import Derived.WalkKit
import Derived.ProofKit
import Derived.OpenShut
import Derived.SizedLaws
import Derived.Deep.DeepHandedRow
import Derived.MakeChecks
namespace Go.Proofs.YtjmbhaoehfdpoaaDoor
open Go.RowKit Go.PlainAid Go.MapKept
set_option linter.unusedVariables false
set_option linter.unusedSimpArgs false
def GO.ok2 (o : GO) : Prop := (-9223372036854775808 ≤ o.a ∧ o.a ≤ 9223372036854775807) ∧ o.n.length ≤ 140737488355328 ∧ (-9223372036854775808 ≤ o.d ∧ o.d ≤ 9223372036854775807) ∧ (-9223372036854775808 ≤ o.u ∧ o.u ≤ 9223372036854775807)
set_option maxRecDepth 100000 in
set_option maxHeartbeats 12800000 in
theorem run_any {S : Led.Sens} {Ls : Nat} (me peer nr lo hi : Int) (ao : Option Addr) (Ns cap : Nat) (os : List GO) (w : World) (hS : Led.Sen S Ls w) (hL : Ls ≤ w.heap.size) (hl : os.length = Ns) (hcm : Ns ≤ maxLen)
    (hat : 0 < Ns → ∃ b off, ao = some ⟨b, off, none⟩ ∧ ∀ j o, os[j]? = some o → GAt w b (off + j * 6) o) (hok : ∀ o ∈ os, o.ok2) :
    Calls Tryd.prog 16 #[.int .i64 me, .int .i64 peer, .int .i64 nr, .slice ao Ns cap, .int .i64 lo, .int .i64 hi] w fun e w' => e = .returned (.bool true) ∧ Below w.heap.size w w' := by
  unfold maxLen at hcm
  have HAL : Hid _ := alive_yes w hS hL
  have HS : Hid (Led.Sen S Ls w) := hS
  have HLS : Hid (Ls ≤ w.heap.size) := hL
  have HAT : Hid (0 < Ns → ∃ b off, ao = some ⟨b, off, none⟩ ∧ ∀ j o, os[j]? = some o → GAt w b (off + j * 6) o) := hat
  have HOS : Hid (∀ o ∈ os, o.ok2) := hok
  have HLE : Hid (os.length = Ns) := hl
  clear hS hL hat hok hl
  go_enter Tryd.func16, Tryd.ntmps16
  go_wp2_with fail
  refine Calls.mono HAL.out ?_
  rintro e9 w1 ⟨rfl, hb1⟩
  have HR0 : Hid (RI w [] 0 [] w1) := ⟨rfl, fun p hp => (by cases hp), List.Pairwise.nil, hb1⟩
  have HMA : Hid _ := HR0.out.made me nr
  clear hb1 HAL
  go_wp2_with fail
  refine Calls.mono HMA.out ?_
  rintro e9 w2 ⟨pa, is1, ps1, rfl, hR1, hin1, hpa⟩
  have HPA : Hid (pa = .pointer none ∨ ∃ i ∈ is1, newCode i.me i.N = 0 ∧ pa = .pointer (some ⟨i.pb, 0, none⟩)) := hpa
  have HMB : Hid _ := hR1.made peer nr
  clear hpa hR1 hin1 HMA HR0
  go_wp2_with fail
  refine Calls.mono HMB.out ?_
  rintro e9 w3 ⟨pb, is, ps0, rfl, hR2, hin2, hpb⟩
  have HPB : Hid (pb = .pointer none ∨ ∃ i ∈ is, newCode i.me i.N = 0 ∧ pb = .pointer (some ⟨i.pb, 0, none⟩)) := hpb
  have HPA2 : Hid (pa = .pointer none ∨ ∃ i ∈ is, newCode i.me i.N = 0 ∧ pa = .pointer (some ⟨i.pb, 0, none⟩)) := show _ ∨ _ from HPA.out.imp id (fun ⟨i, h1, h2⟩ => ⟨i, hin2 i h1, h2⟩)
  have HR2 : Hid (RI w is 0 ps0 w3) := hR2
  clear hpb hR2 hin2 HMB HPA
  go_wp2_with fail
  go_loopw [18] (fun s18 wr => ∃ (q : Nat) (ps : List (PIx × PVl)), q ≤ Ns ∧ q ≤ 200 ∧ s18 = .int .i64 q ∧ RI w is q ps wr) (fun s18 _ => 200 - (intOf s18).toNat)
  case atStart => exact ⟨0, ps0, Nat.zero_le _, Nat.zero_le _, rfl, HR2.out⟩
  case round =>
    obtain ⟨q, ps, hqN, hq2, rfl, hR⟩ := hrel
    have HR : Hid (RI w is q ps wr) := hR
    clear hR HR2
    by_cases hlt : q < Ns ∧ q < 200
    · obtain ⟨b, off, hao, hops⟩ := HAT.out (by omega)
      subst hao
      have hqo : q < os.length := by rw [HLE.out]; exact hlt.1
      have hg := hops q os[q] (List.getElem?_eq_getElem hqo)
      have hg2 := hg.below HR.out.bel hg.lt
      have hok2 := HOS.out os[q] (List.getElem_mem hqo)
      generalize os[q] = o at *
      obtain ⟨ok, owh, oa, on, od, ou⟩ := o
      obtain ⟨c0, c1, c2, c3, c4, c5⟩ := hg2
      unfold GO.ok2 at hok2
      simp only at c0 c1 c2 c3 c4 c5 hok2
      have HOK : Hid ((-9223372036854775808 ≤ oa ∧ oa ≤ 9223372036854775807) ∧ on.length ≤ 140737488355328 ∧ (-9223372036854775808 ≤ od ∧ od ≤ 9223372036854775807) ∧ (-9223372036854775808 ≤ ou ∧ ou ≤ 9223372036854775807)) := hok2
      have hlt1 := hlt.1
      have hlt2 := hlt.2
      clear hops hg hlt hok2 hqo
      obtain ⟨ob, hob⟩ : ∃ ob, ob = wr.heap.size := ⟨_, rfl⟩
      obtain ⟨X, hX⟩ : ∃ X, X = wr.alloc (.cells #[.int .i64 ok, .int .i64 owh, .int .i64 oa, .string ⟨on.toArray⟩, .int .i64 od, .int .i64 ou] 38) := ⟨_, rfl⟩
      have hbX : Below wr.heap.size wr X := by rw [hX]; exact (Below.refl _ _).alloc (Nat.le_refl _) _
      have hBo : Blk X ob #[.int .i64 ok, .int .i64 owh, .int .i64 oa, .string ⟨on.toArray⟩, .int .i64 od, .int .i64 ou] 38 := by rw [hX, hob]; exact heap_alloc_new wr _
      have HRX : Hid (RI w is q ps X) := HR.out.more hbX
      go_upto_region 10 with fail
      rw [← hX, ← hob]
      clear hX hob c0 c1 c2 c3 c4 c5 hbX
      have x0 : X.cell? ⟨ob, 0, none⟩ = some (.int .i64 ok) := hBo.cell 0
      have x1 : X.cell? ⟨ob, 1, none⟩ = some (.int .i64 owh) := hBo.cell 1
      have x2 : X.cell? ⟨ob, 2, none⟩ = some (.int .i64 oa) := hBo.cell 2
      have x3 : X.cell? ⟨ob, 3, none⟩ = some (.string ⟨on.toArray⟩) := hBo.cell 3
      have x4 : X.cell? ⟨ob, 4, none⟩ = some (.int .i64 od) := hBo.cell 4
      have x5 : X.cell? ⟨ob, 5, none⟩ = some (.int .i64 ou) := hBo.cell 5
      clear hBo
      have hch : ((owh == 1) = true ∧ Hid (pb = .pointer none ∨ ∃ i ∈ is, newCode i.me i.N = 0 ∧ pb = .pointer (some ⟨i.pb, 0, none⟩))) ∨ ((owh == 1) = false ∧ Hid (pa = .pointer none ∨ ∃ i ∈ is, newCode i.me i.N = 0 ∧ pa = .pointer (some ⟨i.pb, 0, none⟩))) := by
        by_cases hw1 : owh = 1
        · exact Or.inl ⟨by simpa using hw1, HPB⟩
        · exact Or.inr ⟨by simpa using hw1, HPA2⟩
      rcases hch with ⟨hwb, HPV⟩ | ⟨hwb, HPV⟩
      all_goals (
        rcases HPV.out with hpv | ⟨i, hi_, hcd, hpv⟩
        · subst hpv
          go_upto_region 13 with fail
          refine wp_region_lit ?_
          refine withFrS (N := 92) rfl ?_
          intro f0 F0 hff
          have hs20 : f0 20 = Value.pointer none := hff 20
          have hs19 : f0 19 = Value.pointer (some ⟨ob, 0, none⟩) := hff 19
          have hs4 : f0 4 = Value.int .i64 lo := hff 4
          have hs5 : f0 5 = Value.int .i64 hi := hff 5
          clear hff
          refine syp F0 rfl (by omega) (wanted_none rfl) (v := Value.pointer none) (by simp only [execOp, (F0.eval 20 (by omega)).trans (show _ = Value.pointer none from by simp [upd, hs20, hs19, hs4, hs5])]; first | rfl | simp [go_sem]) fun F1 => ?_
          refine syp F1 rfl (by omega) (wanted_none rfl) (v := Value.bool true) (by simp only [execOp, (F1.eval 63 (by omega)).trans (show _ = Value.pointer none from by simp [upd, hs20, hs19, hs4, hs5])]; simp [go_sem, Act.eval]) fun F2 => ?_
          refine syp F2 rfl (by omega) (wanted_none rfl) (v := Value.bool true) (by simp only [execOp, (F2.eval 64 (by omega)).trans (show _ = Value.bool true from by simp [upd, hs20, hs19, hs4, hs5])]; first | rfl | simp [go_sem]) fun F3 => ?_
          refine snp F3 rfl (by omega) (want_no F3 rfl (e := 65) rfl (by omega) (show _ = Value.bool true from by simp [upd, hs20, hs19, hs4, hs5]) (by decide)) fun F4 => ?_
          refine snp F4 rfl (by omega) (want_no F4 rfl (e := 65) rfl (by omega) (show _ = Value.bool true from by simp [upd, hs20, hs19, hs4, hs5]) (by decide)) fun F5 => ?_
          refine snp F5 rfl (by omega) (want_no F5 rfl (e := 65) rfl (by omega) (show _ = Value.bool true from by simp [upd, hs20, hs19, hs4, hs5]) (by decide)) fun F6 => ?_
          refine snp F6 rfl (by omega) (want_no F6 rfl (e := 65) rfl (by omega) (show _ = Value.bool true from by simp [upd, hs20, hs19, hs4, hs5]) (by decide)) fun F7 => ?_
          refine snp F7 rfl (by omega) (want_not F7 rfl (e := 69) rfl (by omega) (show _ = undef from by simp [upd, hs20, hs19, hs4, hs5])) fun F8 => ?_
          refine snp F8 rfl (by omega) (want_not F8 rfl (e := 69) rfl (by omega) (show _ = undef from by simp [upd, hs20, hs19, hs4, hs5])) fun F9 => ?_
          refine snp F9 rfl (by omega) (want_not F9 rfl (e := 69) rfl (by omega) (show _ = undef from by simp [upd, hs20, hs19, hs4, hs5])) fun F10 => ?_
          refine snp F10 rfl (by omega) (want_no F10 rfl (e := 65) rfl (by omega) (show _ = Value.bool true from by simp [upd, hs20, hs19, hs4, hs5]) (by decide)) fun F11 => ?_
          refine snp F11 rfl (by omega) (want_no F11 rfl (e := 65) rfl (by omega) (show _ = Value.bool true from by simp [upd, hs20, hs19, hs4, hs5]) (by decide)) fun F12 => ?_
          refine snp F12 rfl (by omega) (want_not F12 rfl (e := 74) rfl (by omega) (show _ = undef from by simp [upd, hs20, hs19, hs4, hs5])) fun F13 => ?_
          refine snp F13 rfl (by omega) (want_not F13 rfl (e := 74) rfl (by omega) (show _ = undef from by simp [upd, hs20, hs19, hs4, hs5])) fun F14 => ?_
          refine snp F14 rfl (by omega) (want_not F14 rfl (e := 74) rfl (by omega) (show _ = undef from by simp [upd, hs20, hs19, hs4, hs5])) fun F15 => ?_
          refine snp F15 rfl (by omega) (want_not F15 rfl (e := 74) rfl (by omega) (show _ = undef from by simp [upd, hs20, hs19, hs4, hs5])) fun F16 => ?_
          refine snp F16 rfl (by omega) (want_not F16 rfl (e := 74) rfl (by omega) (show _ = undef from by simp [upd, hs20, hs19, hs4, hs5])) fun F17 => ?_
          refine snp F17 rfl (by omega) (want_not F17 rfl (e := 79) rfl (by omega) (show _ = undef from by simp [upd, hs20, hs19, hs4, hs5])) fun F18 => ?_
          refine snp F18 rfl (by omega) (want_not F18 rfl (e := 79) rfl (by omega) (show _ = undef from by simp [upd, hs20, hs19, hs4, hs5])) fun F19 => ?_
          refine snp F19 rfl (by omega) (want_not F19 rfl (e := 79) rfl (by omega) (show _ = undef from by simp [upd, hs20, hs19, hs4, hs5])) fun F20 => ?_
          refine snp F20 rfl (by omega) (want_not F20 rfl (e := 79) rfl (by omega) (show _ = undef from by simp [upd, hs20, hs19, hs4, hs5])) fun F21 => ?_
          refine snp F21 rfl (by omega) (want_not F21 rfl (e := 74) rfl (by omega) (show _ = undef from by simp [upd, hs20, hs19, hs4, hs5])) fun F22 => ?_
          refine snp F22 rfl (by omega) (want_no F22 rfl (e := 65) rfl (by omega) (show _ = Value.bool true from by simp [upd, hs20, hs19, hs4, hs5]) (by decide)) fun F23 => ?_
          refine syp F23 rfl (by omega) (wanted_none rfl) (v := Value.bool true) (by simp only [execOp, (F23.eval 65 (by omega)).trans (show _ = Value.bool true from by simp [upd, hs20, hs19, hs4, hs5])]; simp [go_sem, Act.eval]) fun F24 => ?_
          refine ⟨?_⟩
          clear F0 F1 F2 F3 F4 F5 F6 F7 F8 F9 F10 F11 F12 F13 F14 F15 F16 F17 F18 F19 F20 F21 F22 F23 F24 hs20 hs19 hs4 hs5 
          simp only [Act.put, List.setIfInBounds_toArray, List.set_cons_succ, List.set_cons_zero]
          go_wp2_with fail
          go_roundw
          case rel => exact ⟨q + 1, ps, by omega, by omega, by go_num, HRX.out.mono⟩
          case measure => simp [intOf]; omega
        · subst hpv
          by_cases k2 : 2 ≤ ok
          · have c2 : (2 : Int) ≤ ok := k2
            by_cases k4 : ok ≤ 4
            · have c4 : ok ≤ 4 := k4
              by_cases clo : ok < lo
              · go_upto_region 13 with fail
                refine wp_region_lit ?_
                refine withFrS (N := 92) rfl ?_
                intro f0 F0 hff
                have hs20 : f0 20 = Value.pointer (some ⟨i.pb, 0, none⟩) := hff 20
                have hs19 : f0 19 = Value.pointer (some ⟨ob, 0, none⟩) := hff 19
                have hs4 : f0 4 = Value.int .i64 lo := hff 4
                have hs5 : f0 5 = Value.int .i64 hi := hff 5
                clear hff
                refine syp F0 rfl (by omega) (wanted_none rfl) (v := Value.pointer (some ⟨i.pb, 0, none⟩)) (by simp only [execOp, (F0.eval 20 (by omega)).trans (show _ = Value.pointer (some ⟨i.pb, 0, none⟩) from by simp [upd, hs20, hs19, hs4, hs5])]; first | rfl | simp [go_sem]) fun F1 => ?_
                refine syp F1 rfl (by omega) (wanted_none rfl) (v := Value.bool false) (by simp only [execOp, (F1.eval 63 (by omega)).trans (show _ = Value.pointer (some ⟨i.pb, 0, none⟩) from by simp [upd, hs20, hs19, hs4, hs5])]; simp [go_sem, Act.eval]) fun F2 => ?_
                refine syp F2 rfl (by omega) (wanted_none rfl) (v := Value.bool false) (by simp only [execOp, (F2.eval 64 (by omega)).trans (show _ = Value.bool false from by simp [upd, hs20, hs19, hs4, hs5])]; first | rfl | simp [go_sem]) fun F3 => ?_
                refine syp F3 rfl (by omega) (want_yes F3 rfl (e := 65) rfl (by omega) (show _ = Value.bool false from by simp [upd, hs20, hs19, hs4, hs5])) (v := Value.pointer (some ⟨ob, 0, none⟩)) (by simp only [execOp, (F3.eval 19 (by omega)).trans (show _ = Value.pointer (some ⟨ob, 0, none⟩) from by simp [upd, hs20, hs19, hs4, hs5])]; simp [go_sem, Act.eval]) fun F4 => ?_
                refine syp F4 rfl (by omega) (want_yes F4 rfl (e := 65) rfl (by omega) (show _ = Value.bool false from by simp [upd, hs20, hs19, hs4, hs5])) (v := Value.int .i64 ok) (by simp only [execOp, (F4.eval 66 (by omega)).trans (show _ = Value.pointer (some ⟨ob, 0, none⟩) from by simp [upd, hs20, hs19, hs4, hs5])]; simp [go_sem, Act.eval, x0]) fun F5 => ?_
                refine syp F5 rfl (by omega) (want_yes F5 rfl (e := 65) rfl (by omega) (show _ = Value.bool false from by simp [upd, hs20, hs19, hs4, hs5])) (v := Value.bool true) (by simp only [execOp, (F5.eval 67 (by omega)).trans (show _ = Value.int .i64 ok from by simp [upd, hs20, hs19, hs4, hs5])]; simp [go_sem, Act.eval, c2]) fun F6 => ?_
                refine syp F6 rfl (by omega) (want_yes F6 rfl (e := 65) rfl (by omega) (show _ = Value.bool false from by simp [upd, hs20, hs19, hs4, hs5])) (v := Value.bool true) (by simp only [execOp, (F6.eval 68 (by omega)).trans (show _ = Value.bool true from by simp [upd, hs20, hs19, hs4, hs5])]; first | rfl | simp [go_sem]) fun F7 => ?_
                refine syp F7 rfl (by omega) (want_yes F7 rfl (e := 69) rfl (by omega) (show _ = Value.bool true from by simp [upd, hs20, hs19, hs4, hs5])) (v := Value.pointer (some ⟨ob, 0, none⟩)) (by simp only [execOp, (F7.eval 19 (by omega)).trans (show _ = Value.pointer (some ⟨ob, 0, none⟩) from by simp [upd, hs20, hs19, hs4, hs5])]; simp [go_sem, Act.eval]) fun F8 => ?_
                refine syp F8 rfl (by omega) (want_yes F8 rfl (e := 69) rfl (by omega) (show _ = Value.bool true from by simp [upd, hs20, hs19, hs4, hs5])) (v := Value.int .i64 ok) (by simp only [execOp, (F8.eval 70 (by omega)).trans (show _ = Value.pointer (some ⟨ob, 0, none⟩) from by simp [upd, hs20, hs19, hs4, hs5])]; simp [go_sem, Act.eval, x0]) fun F9 => ?_
                refine syp F9 rfl (by omega) (want_yes F9 rfl (e := 69) rfl (by omega) (show _ = Value.bool true from by simp [upd, hs20, hs19, hs4, hs5])) (v := Value.bool true) (by simp only [execOp, (F9.eval 71 (by omega)).trans (show _ = Value.int .i64 ok from by simp [upd, hs20, hs19, hs4, hs5])]; simp [go_sem, Act.eval, c4]) fun F10 => ?_
                refine syp F10 rfl (by omega) (want_yes F10 rfl (e := 65) rfl (by omega) (show _ = Value.bool false from by simp [upd, hs20, hs19, hs4, hs5])) (v := Value.bool true) (by simp only [execOp, (F10.eval 69 (by omega)).trans (show _ = Value.bool true from by simp [upd, hs20, hs19, hs4, hs5]), (F10.eval 72 (by omega)).trans (show _ = Value.bool true from by simp [upd, hs20, hs19, hs4, hs5])]; simp [go_sem, Act.eval]) fun F11 => ?_
                refine syp F11 rfl (by omega) (want_yes F11 rfl (e := 65) rfl (by omega) (show _ = Value.bool false from by simp [upd, hs20, hs19, hs4, hs5])) (v := Value.bool true) (by simp only [execOp, (F11.eval 73 (by omega)).trans (show _ = Value.bool true from by simp [upd, hs20, hs19, hs4, hs5])]; first | rfl | simp [go_sem]) fun F12 => ?_
                refine syp F12 rfl (by omega) (want_yes F12 rfl (e := 74) rfl (by omega) (show _ = Value.bool true from by simp [upd, hs20, hs19, hs4, hs5])) (v := Value.pointer (some ⟨ob, 0, none⟩)) (by simp only [execOp, (F12.eval 19 (by omega)).trans (show _ = Value.pointer (some ⟨ob, 0, none⟩) from by simp [upd, hs20, hs19, hs4, hs5])]; simp [go_sem, Act.eval]) fun F13 => ?_
                refine syp F13 rfl (by omega) (want_yes F13 rfl (e := 74) rfl (by omega) (show _ = Value.bool true from by simp [upd, hs20, hs19, hs4, hs5])) (v := Value.int .i64 ok) (by simp only [execOp, (F13.eval 75 (by omega)).trans (show _ = Value.pointer (some ⟨ob, 0, none⟩) from by simp [upd, hs20, hs19, hs4, hs5])]; simp [go_sem, Act.eval, x0]) fun F14 => ?_
                refine syp F14 rfl (by omega) (want_yes F14 rfl (e := 74) rfl (by omega) (show _ = Value.bool true from by simp [upd, hs20, hs19, hs4, hs5])) (v := Value.int .i64 lo) (by simp only [execOp, (F14.eval 4 (by omega)).trans (show _ = Value.int .i64 lo from by simp [upd, hs20, hs19, hs4, hs5])]; first | rfl | simp [go_sem]) fun F15 => ?_
                refine syp F15 rfl (by omega) (want_yes F15 rfl (e := 74) rfl (by omega) (show _ = Value.bool true from by simp [upd, hs20, hs19, hs4, hs5])) (v := Value.bool true) (by simp only [execOp, (F15.eval 76 (by omega)).trans (show _ = Value.int .i64 ok from by simp [upd, hs20, hs19, hs4, hs5]), (F15.eval 77 (by omega)).trans (show _ = Value.int .i64 lo from by simp [upd, hs20, hs19, hs4, hs5])]; simp [go_sem, Act.eval, clo]) fun F16 => ?_
                refine syp F16 rfl (by omega) (want_yes F16 rfl (e := 74) rfl (by omega) (show _ = Value.bool true from by simp [upd, hs20, hs19, hs4, hs5])) (v := Value.bool true) (by simp only [execOp, (F16.eval 78 (by omega)).trans (show _ = Value.bool true from by simp [upd, hs20, hs19, hs4, hs5])]; first | rfl | simp [go_sem]) fun F17 => ?_
                refine snp F17 rfl (by omega) (want_no F17 rfl (e := 79) rfl (by omega) (show _ = Value.bool true from by simp [upd, hs20, hs19, hs4, hs5]) (by decide)) fun F18 => ?_
                refine snp F18 rfl (by omega) (want_no F18 rfl (e := 79) rfl (by omega) (show _ = Value.bool true from by simp [upd, hs20, hs19, hs4, hs5]) (by decide)) fun F19 => ?_
                refine snp F19 rfl (by omega) (want_no F19 rfl (e := 79) rfl (by omega) (show _ = Value.bool true from by simp [upd, hs20, hs19, hs4, hs5]) (by decide)) fun F20 => ?_
                refine snp F20 rfl (by omega) (want_no F20 rfl (e := 79) rfl (by omega) (show _ = Value.bool true from by simp [upd, hs20, hs19, hs4, hs5]) (by decide)) fun F21 => ?_
                refine syp F21 rfl (by omega) (want_yes F21 rfl (e := 74) rfl (by omega) (show _ = Value.bool true from by simp [upd, hs20, hs19, hs4, hs5])) (v := Value.bool true) (by simp only [execOp, (F21.eval 79 (by omega)).trans (show _ = Value.bool true from by simp [upd, hs20, hs19, hs4, hs5])]; simp [go_sem, Act.eval]) fun F22 => ?_
                refine syp F22 rfl (by omega) (want_yes F22 rfl (e := 65) rfl (by omega) (show _ = Value.bool false from by simp [upd, hs20, hs19, hs4, hs5])) (v := Value.bool true) (by simp only [execOp, (F22.eval 74 (by omega)).trans (show _ = Value.bool true from by simp [upd, hs20, hs19, hs4, hs5]), (F22.eval 84 (by omega)).trans (show _ = Value.bool true from by simp [upd, hs20, hs19, hs4, hs5])]; simp [go_sem, Act.eval]) fun F23 => ?_
                refine syp F23 rfl (by omega) (wanted_none rfl) (v := Value.bool true) (by simp only [execOp, (F23.eval 65 (by omega)).trans (show _ = Value.bool false from by simp [upd, hs20, hs19, hs4, hs5]), (F23.eval 85 (by omega)).trans (show _ = Value.bool true from by simp [upd, hs20, hs19, hs4, hs5])]; simp [go_sem, Act.eval]) fun F24 => ?_
                refine ⟨?_⟩
                clear F0 F1 F2 F3 F4 F5 F6 F7 F8 F9 F10 F11 F12 F13 F14 F15 F16 F17 F18 F19 F20 F21 F22 F23 F24 hs20 hs19 hs4 hs5 
                simp only [Act.put, List.setIfInBounds_toArray, List.set_cons_succ, List.set_cons_zero]
                go_wp2_with fail
                go_roundw
                case rel => exact ⟨q + 1, ps, by omega, by omega, by go_num, HRX.out.mono⟩
                case measure => simp [intOf]; omega
              · by_cases chi : hi < ok
                · go_upto_region 13 with fail
                  refine wp_region_lit ?_
                  refine withFrS (N := 92) rfl ?_
                  intro f0 F0 hff
                  have hs20 : f0 20 = Value.pointer (some ⟨i.pb, 0, none⟩) := hff 20
                  have hs19 : f0 19 = Value.pointer (some ⟨ob, 0, none⟩) := hff 19
                  have hs4 : f0 4 = Value.int .i64 lo := hff 4
                  have hs5 : f0 5 = Value.int .i64 hi := hff 5
                  clear hff
                  refine syp F0 rfl (by omega) (wanted_none rfl) (v := Value.pointer (some ⟨i.pb, 0, none⟩)) (by simp only [execOp, (F0.eval 20 (by omega)).trans (show _ = Value.pointer (some ⟨i.pb, 0, none⟩) from by simp [upd, hs20, hs19, hs4, hs5])]; first | rfl | simp [go_sem]) fun F1 => ?_
                  refine syp F1 rfl (by omega) (wanted_none rfl) (v := Value.bool false) (by simp only [execOp, (F1.eval 63 (by omega)).trans (show _ = Value.pointer (some ⟨i.pb, 0, none⟩) from by simp [upd, hs20, hs19, hs4, hs5])]; simp [go_sem, Act.eval]) fun F2 => ?_
                  refine syp F2 rfl (by omega) (wanted_none rfl) (v := Value.bool false) (by simp only [execOp, (F2.eval 64 (by omega)).trans (show _ = Value.bool false from by simp [upd, hs20, hs19, hs4, hs5])]; first | rfl | simp [go_sem]) fun F3 => ?_
                  refine syp F3 rfl (by omega) (want_yes F3 rfl (e := 65) rfl (by omega) (show _ = Value.bool false from by simp [upd, hs20, hs19, hs4, hs5])) (v := Value.pointer (some ⟨ob, 0, none⟩)) (by simp only [execOp, (F3.eval 19 (by omega)).trans (show _ = Value.pointer (some ⟨ob, 0, none⟩) from by simp [upd, hs20, hs19, hs4, hs5])]; simp [go_sem, Act.eval]) fun F4 => ?_
                  refine syp F4 rfl (by omega) (want_yes F4 rfl (e := 65) rfl (by omega) (show _ = Value.bool false from by simp [upd, hs20, hs19, hs4, hs5])) (v := Value.int .i64 ok) (by simp only [execOp, (F4.eval 66 (by omega)).trans (show _ = Value.pointer (some ⟨ob, 0, none⟩) from by simp [upd, hs20, hs19, hs4, hs5])]; simp [go_sem, Act.eval, x0]) fun F5 => ?_
                  refine syp F5 rfl (by omega) (want_yes F5 rfl (e := 65) rfl (by omega) (show _ = Value.bool false from by simp [upd, hs20, hs19, hs4, hs5])) (v := Value.bool true) (by simp only [execOp, (F5.eval 67 (by omega)).trans (show _ = Value.int .i64 ok from by simp [upd, hs20, hs19, hs4, hs5])]; simp [go_sem, Act.eval, c2]) fun F6 => ?_
                  refine syp F6 rfl (by omega) (want_yes F6 rfl (e := 65) rfl (by omega) (show _ = Value.bool false from by simp [upd, hs20, hs19, hs4, hs5])) (v := Value.bool true) (by simp only [execOp, (F6.eval 68 (by omega)).trans (show _ = Value.bool true from by simp [upd, hs20, hs19, hs4, hs5])]; first | rfl | simp [go_sem]) fun F7 => ?_
                  refine syp F7 rfl (by omega) (want_yes F7 rfl (e := 69) rfl (by omega) (show _ = Value.bool true from by simp [upd, hs20, hs19, hs4, hs5])) (v := Value.pointer (some ⟨ob, 0, none⟩)) (by simp only [execOp, (F7.eval 19 (by omega)).trans (show _ = Value.pointer (some ⟨ob, 0, none⟩) from by simp [upd, hs20, hs19, hs4, hs5])]; simp [go_sem, Act.eval]) fun F8 => ?_
                  refine syp F8 rfl (by omega) (want_yes F8 rfl (e := 69) rfl (by omega) (show _ = Value.bool true from by simp [upd, hs20, hs19, hs4, hs5])) (v := Value.int .i64 ok) (by simp only [execOp, (F8.eval 70 (by omega)).trans (show _ = Value.pointer (some ⟨ob, 0, none⟩) from by simp [upd, hs20, hs19, hs4, hs5])]; simp [go_sem, Act.eval, x0]) fun F9 => ?_
                  refine syp F9 rfl (by omega) (want_yes F9 rfl (e := 69) rfl (by omega) (show _ = Value.bool true from by simp [upd, hs20, hs19, hs4, hs5])) (v := Value.bool true) (by simp only [execOp, (F9.eval 71 (by omega)).trans (show _ = Value.int .i64 ok from by simp [upd, hs20, hs19, hs4, hs5])]; simp [go_sem, Act.eval, c4]) fun F10 => ?_
                  refine syp F10 rfl (by omega) (want_yes F10 rfl (e := 65) rfl (by omega) (show _ = Value.bool false from by simp [upd, hs20, hs19, hs4, hs5])) (v := Value.bool true) (by simp only [execOp, (F10.eval 69 (by omega)).trans (show _ = Value.bool true from by simp [upd, hs20, hs19, hs4, hs5]), (F10.eval 72 (by omega)).trans (show _ = Value.bool true from by simp [upd, hs20, hs19, hs4, hs5])]; simp [go_sem, Act.eval]) fun F11 => ?_
                  refine syp F11 rfl (by omega) (want_yes F11 rfl (e := 65) rfl (by omega) (show _ = Value.bool false from by simp [upd, hs20, hs19, hs4, hs5])) (v := Value.bool true) (by simp only [execOp, (F11.eval 73 (by omega)).trans (show _ = Value.bool true from by simp [upd, hs20, hs19, hs4, hs5])]; first | rfl | simp [go_sem]) fun F12 => ?_
                  refine syp F12 rfl (by omega) (want_yes F12 rfl (e := 74) rfl (by omega) (show _ = Value.bool true from by simp [upd, hs20, hs19, hs4, hs5])) (v := Value.pointer (some ⟨ob, 0, none⟩)) (by simp only [execOp, (F12.eval 19 (by omega)).trans (show _ = Value.pointer (some ⟨ob, 0, none⟩) from by simp [upd, hs20, hs19, hs4, hs5])]; simp [go_sem, Act.eval]) fun F13 => ?_
                  refine syp F13 rfl (by omega) (want_yes F13 rfl (e := 74) rfl (by omega) (show _ = Value.bool true from by simp [upd, hs20, hs19, hs4, hs5])) (v := Value.int .i64 ok) (by simp only [execOp, (F13.eval 75 (by omega)).trans (show _ = Value.pointer (some ⟨ob, 0, none⟩) from by simp [upd, hs20, hs19, hs4, hs5])]; simp [go_sem, Act.eval, x0]) fun F14 => ?_
                  refine syp F14 rfl (by omega) (want_yes F14 rfl (e := 74) rfl (by omega) (show _ = Value.bool true from by simp [upd, hs20, hs19, hs4, hs5])) (v := Value.int .i64 lo) (by simp only [execOp, (F14.eval 4 (by omega)).trans (show _ = Value.int .i64 lo from by simp [upd, hs20, hs19, hs4, hs5])]; first | rfl | simp [go_sem]) fun F15 => ?_
                  refine syp F15 rfl (by omega) (want_yes F15 rfl (e := 74) rfl (by omega) (show _ = Value.bool true from by simp [upd, hs20, hs19, hs4, hs5])) (v := Value.bool false) (by simp only [execOp, (F15.eval 76 (by omega)).trans (show _ = Value.int .i64 ok from by simp [upd, hs20, hs19, hs4, hs5]), (F15.eval 77 (by omega)).trans (show _ = Value.int .i64 lo from by simp [upd, hs20, hs19, hs4, hs5])]; simp [go_sem, Act.eval, clo]) fun F16 => ?_
                  refine syp F16 rfl (by omega) (want_yes F16 rfl (e := 74) rfl (by omega) (show _ = Value.bool true from by simp [upd, hs20, hs19, hs4, hs5])) (v := Value.bool false) (by simp only [execOp, (F16.eval 78 (by omega)).trans (show _ = Value.bool false from by simp [upd, hs20, hs19, hs4, hs5])]; first | rfl | simp [go_sem]) fun F17 => ?_
                  refine syp F17 rfl (by omega) (want_yes F17 rfl (e := 79) rfl (by omega) (show _ = Value.bool false from by simp [upd, hs20, hs19, hs4, hs5])) (v := Value.pointer (some ⟨ob, 0, none⟩)) (by simp only [execOp, (F17.eval 19 (by omega)).trans (show _ = Value.pointer (some ⟨ob, 0, none⟩) from by simp [upd, hs20, hs19, hs4, hs5])]; simp [go_sem, Act.eval]) fun F18 => ?_
                  refine syp F18 rfl (by omega) (want_yes F18 rfl (e := 79) rfl (by omega) (show _ = Value.bool false from by simp [upd, hs20, hs19, hs4, hs5])) (v := Value.int .i64 ok) (by simp only [execOp, (F18.eval 80 (by omega)).trans (show _ = Value.pointer (some ⟨ob, 0, none⟩) from by simp [upd, hs20, hs19, hs4, hs5])]; simp [go_sem, Act.eval, x0]) fun F19 => ?_
                  refine syp F19 rfl (by omega) (want_yes F19 rfl (e := 79) rfl (by omega) (show _ = Value.bool false from by simp [upd, hs20, hs19, hs4, hs5])) (v := Value.int .i64 hi) (by simp only [execOp, (F19.eval 5 (by omega)).trans (show _ = Value.int .i64 hi from by simp [upd, hs20, hs19, hs4, hs5])]; first | rfl | simp [go_sem]) fun F20 => ?_
                  refine syp F20 rfl (by omega) (want_yes F20 rfl (e := 79) rfl (by omega) (show _ = Value.bool false from by simp [upd, hs20, hs19, hs4, hs5])) (v := Value.bool true) (by simp only [execOp, (F20.eval 81 (by omega)).trans (show _ = Value.int .i64 ok from by simp [upd, hs20, hs19, hs4, hs5]), (F20.eval 82 (by omega)).trans (show _ = Value.int .i64 hi from by simp [upd, hs20, hs19, hs4, hs5])]; simp [go_sem, Act.eval, chi]) fun F21 => ?_
                  refine syp F21 rfl (by omega) (want_yes F21 rfl (e := 74) rfl (by omega) (show _ = Value.bool true from by simp [upd, hs20, hs19, hs4, hs5])) (v := Value.bool true) (by simp only [execOp, (F21.eval 79 (by omega)).trans (show _ = Value.bool false from by simp [upd, hs20, hs19, hs4, hs5]), (F21.eval 83 (by omega)).trans (show _ = Value.bool true from by simp [upd, hs20, hs19, hs4, hs5])]; simp [go_sem, Act.eval]) fun F22 => ?_
                  refine syp F22 rfl (by omega) (want_yes F22 rfl (e := 65) rfl (by omega) (show _ = Value.bool false from by simp [upd, hs20, hs19, hs4, hs5])) (v := Value.bool true) (by simp only [execOp, (F22.eval 74 (by omega)).trans (show _ = Value.bool true from by simp [upd, hs20, hs19, hs4, hs5]), (F22.eval 84 (by omega)).trans (show _ = Value.bool true from by simp [upd, hs20, hs19, hs4, hs5])]; simp [go_sem, Act.eval]) fun F23 => ?_
                  refine syp F23 rfl (by omega) (wanted_none rfl) (v := Value.bool true) (by simp only [execOp, (F23.eval 65 (by omega)).trans (show _ = Value.bool false from by simp [upd, hs20, hs19, hs4, hs5]), (F23.eval 85 (by omega)).trans (show _ = Value.bool true from by simp [upd, hs20, hs19, hs4, hs5])]; simp [go_sem, Act.eval]) fun F24 => ?_
                  refine ⟨?_⟩
                  clear F0 F1 F2 F3 F4 F5 F6 F7 F8 F9 F10 F11 F12 F13 F14 F15 F16 F17 F18 F19 F20 F21 F22 F23 F24 hs20 hs19 hs4 hs5 
                  simp only [Act.put, List.setIfInBounds_toArray, List.set_cons_succ, List.set_cons_zero]
                  go_wp2_with fail
                  go_roundw
                  case rel => exact ⟨q + 1, ps, by omega, by omega, by go_num, HRX.out.mono⟩
                  case measure => simp [intOf]; omega
                · go_upto_region 13 with fail
                  refine wp_region_lit ?_
                  refine withFrS (N := 92) rfl ?_
                  intro f0 F0 hff
                  have hs20 : f0 20 = Value.pointer (some ⟨i.pb, 0, none⟩) := hff 20
                  have hs19 : f0 19 = Value.pointer (some ⟨ob, 0, none⟩) := hff 19
                  have hs4 : f0 4 = Value.int .i64 lo := hff 4
                  have hs5 : f0 5 = Value.int .i64 hi := hff 5
                  clear hff
                  refine syp F0 rfl (by omega) (wanted_none rfl) (v := Value.pointer (some ⟨i.pb, 0, none⟩)) (by simp only [execOp, (F0.eval 20 (by omega)).trans (show _ = Value.pointer (some ⟨i.pb, 0, none⟩) from by simp [upd, hs20, hs19, hs4, hs5])]; first | rfl | simp [go_sem]) fun F1 => ?_
                  refine syp F1 rfl (by omega) (wanted_none rfl) (v := Value.bool false) (by simp only [execOp, (F1.eval 63 (by omega)).trans (show _ = Value.pointer (some ⟨i.pb, 0, none⟩) from by simp [upd, hs20, hs19, hs4, hs5])]; simp [go_sem, Act.eval]) fun F2 => ?_
                  refine syp F2 rfl (by omega) (wanted_none rfl) (v := Value.bool false) (by simp only [execOp, (F2.eval 64 (by omega)).trans (show _ = Value.bool false from by simp [upd, hs20, hs19, hs4, hs5])]; first | rfl | simp [go_sem]) fun F3 => ?_
                  refine syp F3 rfl (by omega) (want_yes F3 rfl (e := 65) rfl (by omega) (show _ = Value.bool false from by simp [upd, hs20, hs19, hs4, hs5])) (v := Value.pointer (some ⟨ob, 0, none⟩)) (by simp only [execOp, (F3.eval 19 (by omega)).trans (show _ = Value.pointer (some ⟨ob, 0, none⟩) from by simp [upd, hs20, hs19, hs4, hs5])]; simp [go_sem, Act.eval]) fun F4 => ?_
                  refine syp F4 rfl (by omega) (want_yes F4 rfl (e := 65) rfl (by omega) (show _ = Value.bool false from by simp [upd, hs20, hs19, hs4, hs5])) (v := Value.int .i64 ok) (by simp only [execOp, (F4.eval 66 (by omega)).trans (show _ = Value.pointer (some ⟨ob, 0, none⟩) from by simp [upd, hs20, hs19, hs4, hs5])]; simp [go_sem, Act.eval, x0]) fun F5 => ?_
                  refine syp F5 rfl (by omega) (want_yes F5 rfl (e := 65) rfl (by omega) (show _ = Value.bool false from by simp [upd, hs20, hs19, hs4, hs5])) (v := Value.bool true) (by simp only [execOp, (F5.eval 67 (by omega)).trans (show _ = Value.int .i64 ok from by simp [upd, hs20, hs19, hs4, hs5])]; simp [go_sem, Act.eval, c2]) fun F6 => ?_
                  refine syp F6 rfl (by omega) (want_yes F6 rfl (e := 65) rfl (by omega) (show _ = Value.bool false from by simp [upd, hs20, hs19, hs4, hs5])) (v := Value.bool true) (by simp only [execOp, (F6.eval 68 (by omega)).trans (show _ = Value.bool true from by simp [upd, hs20, hs19, hs4, hs5])]; first | rfl | simp [go_sem]) fun F7 => ?_
                  refine syp F7 rfl (by omega) (want_yes F7 rfl (e := 69) rfl (by omega) (show _ = Value.bool true from by simp [upd, hs20, hs19, hs4, hs5])) (v := Value.pointer (some ⟨ob, 0, none⟩)) (by simp only [execOp, (F7.eval 19 (by omega)).trans (show _ = Value.pointer (some ⟨ob, 0, none⟩) from by simp [upd, hs20, hs19, hs4, hs5])]; simp [go_sem, Act.eval]) fun F8 => ?_
                  refine syp F8 rfl (by omega) (want_yes F8 rfl (e := 69) rfl (by omega) (show _ = Value.bool true from by simp [upd, hs20, hs19, hs4, hs5])) (v := Value.int .i64 ok) (by simp only [execOp, (F8.eval 70 (by omega)).trans (show _ = Value.pointer (some ⟨ob, 0, none⟩) from by simp [upd, hs20, hs19, hs4, hs5])]; simp [go_sem, Act.eval, x0]) fun F9 => ?_
                  refine syp F9 rfl (by omega) (want_yes F9 rfl (e := 69) rfl (by omega) (show _ = Value.bool true from by simp [upd, hs20, hs19, hs4, hs5])) (v := Value.bool true) (by simp only [execOp, (F9.eval 71 (by omega)).trans (show _ = Value.int .i64 ok from by simp [upd, hs20, hs19, hs4, hs5])]; simp [go_sem, Act.eval, c4]) fun F10 => ?_
                  refine syp F10 rfl (by omega) (want_yes F10 rfl (e := 65) rfl (by omega) (show _ = Value.bool false from by simp [upd, hs20, hs19, hs4, hs5])) (v := Value.bool true) (by simp only [execOp, (F10.eval 69 (by omega)).trans (show _ = Value.bool true from by simp [upd, hs20, hs19, hs4, hs5]), (F10.eval 72 (by omega)).trans (show _ = Value.bool true from by simp [upd, hs20, hs19, hs4, hs5])]; simp [go_sem, Act.eval]) fun F11 => ?_
                  refine syp F11 rfl (by omega) (want_yes F11 rfl (e := 65) rfl (by omega) (show _ = Value.bool false from by simp [upd, hs20, hs19, hs4, hs5])) (v := Value.bool true) (by simp only [execOp, (F11.eval 73 (by omega)).trans (show _ = Value.bool true from by simp [upd, hs20, hs19, hs4, hs5])]; first | rfl | simp [go_sem]) fun F12 => ?_
                  refine syp F12 rfl (by omega) (want_yes F12 rfl (e := 74) rfl (by omega) (show _ = Value.bool true from by simp [upd, hs20, hs19, hs4, hs5])) (v := Value.pointer (some ⟨ob, 0, none⟩)) (by simp only [execOp, (F12.eval 19 (by omega)).trans (show _ = Value.pointer (some ⟨ob, 0, none⟩) from by simp [upd, hs20, hs19, hs4, hs5])]; simp [go_sem, Act.eval]) fun F13 => ?_
                  refine syp F13 rfl (by omega) (want_yes F13 rfl (e := 74) rfl (by omega) (show _ = Value.bool true from by simp [upd, hs20, hs19, hs4, hs5])) (v := Value.int .i64 ok) (by simp only [execOp, (F13.eval 75 (by omega)).trans (show _ = Value.pointer (some ⟨ob, 0, none⟩) from by simp [upd, hs20, hs19, hs4, hs5])]; simp [go_sem, Act.eval, x0]) fun F14 => ?_
                  refine syp F14 rfl (by omega) (want_yes F14 rfl (e := 74) rfl (by omega) (show _ = Value.bool true from by simp [upd, hs20, hs19, hs4, hs5])) (v := Value.int .i64 lo) (by simp only [execOp, (F14.eval 4 (by omega)).trans (show _ = Value.int .i64 lo from by simp [upd, hs20, hs19, hs4, hs5])]; first | rfl | simp [go_sem]) fun F15 => ?_
                  refine syp F15 rfl (by omega) (want_yes F15 rfl (e := 74) rfl (by omega) (show _ = Value.bool true from by simp [upd, hs20, hs19, hs4, hs5])) (v := Value.bool false) (by simp only [execOp, (F15.eval 76 (by omega)).trans (show _ = Value.int .i64 ok from by simp [upd, hs20, hs19, hs4, hs5]), (F15.eval 77 (by omega)).trans (show _ = Value.int .i64 lo from by simp [upd, hs20, hs19, hs4, hs5])]; simp [go_sem, Act.eval, clo]) fun F16 => ?_
                  refine syp F16 rfl (by omega) (want_yes F16 rfl (e := 74) rfl (by omega) (show _ = Value.bool true from by simp [upd, hs20, hs19, hs4, hs5])) (v := Value.bool false) (by simp only [execOp, (F16.eval 78 (by omega)).trans (show _ = Value.bool false from by simp [upd, hs20, hs19, hs4, hs5])]; first | rfl | simp [go_sem]) fun F17 => ?_
                  refine syp F17 rfl (by omega) (want_yes F17 rfl (e := 79) rfl (by omega) (show _ = Value.bool false from by simp [upd, hs20, hs19, hs4, hs5])) (v := Value.pointer (some ⟨ob, 0, none⟩)) (by simp only [execOp, (F17.eval 19 (by omega)).trans (show _ = Value.pointer (some ⟨ob, 0, none⟩) from by simp [upd, hs20, hs19, hs4, hs5])]; simp [go_sem, Act.eval]) fun F18 => ?_
                  refine syp F18 rfl (by omega) (want_yes F18 rfl (e := 79) rfl (by omega) (show _ = Value.bool false from by simp [upd, hs20, hs19, hs4, hs5])) (v := Value.int .i64 ok) (by simp only [execOp, (F18.eval 80 (by omega)).trans (show _ = Value.pointer (some ⟨ob, 0, none⟩) from by simp [upd, hs20, hs19, hs4, hs5])]; simp [go_sem, Act.eval, x0]) fun F19 => ?_
                  refine syp F19 rfl (by omega) (want_yes F19 rfl (e := 79) rfl (by omega) (show _ = Value.bool false from by simp [upd, hs20, hs19, hs4, hs5])) (v := Value.int .i64 hi) (by simp only [execOp, (F19.eval 5 (by omega)).trans (show _ = Value.int .i64 hi from by simp [upd, hs20, hs19, hs4, hs5])]; first | rfl | simp [go_sem]) fun F20 => ?_
                  refine syp F20 rfl (by omega) (want_yes F20 rfl (e := 79) rfl (by omega) (show _ = Value.bool false from by simp [upd, hs20, hs19, hs4, hs5])) (v := Value.bool false) (by simp only [execOp, (F20.eval 81 (by omega)).trans (show _ = Value.int .i64 ok from by simp [upd, hs20, hs19, hs4, hs5]), (F20.eval 82 (by omega)).trans (show _ = Value.int .i64 hi from by simp [upd, hs20, hs19, hs4, hs5])]; simp [go_sem, Act.eval, chi]) fun F21 => ?_
                  refine syp F21 rfl (by omega) (want_yes F21 rfl (e := 74) rfl (by omega) (show _ = Value.bool true from by simp [upd, hs20, hs19, hs4, hs5])) (v := Value.bool false) (by simp only [execOp, (F21.eval 79 (by omega)).trans (show _ = Value.bool false from by simp [upd, hs20, hs19, hs4, hs5]), (F21.eval 83 (by omega)).trans (show _ = Value.bool false from by simp [upd, hs20, hs19, hs4, hs5])]; simp [go_sem, Act.eval]) fun F22 => ?_
                  refine syp F22 rfl (by omega) (want_yes F22 rfl (e := 65) rfl (by omega) (show _ = Value.bool false from by simp [upd, hs20, hs19, hs4, hs5])) (v := Value.bool false) (by simp only [execOp, (F22.eval 74 (by omega)).trans (show _ = Value.bool true from by simp [upd, hs20, hs19, hs4, hs5]), (F22.eval 84 (by omega)).trans (show _ = Value.bool false from by simp [upd, hs20, hs19, hs4, hs5])]; simp [go_sem, Act.eval]) fun F23 => ?_
                  refine syp F23 rfl (by omega) (wanted_none rfl) (v := Value.bool false) (by simp only [execOp, (F23.eval 65 (by omega)).trans (show _ = Value.bool false from by simp [upd, hs20, hs19, hs4, hs5]), (F23.eval 85 (by omega)).trans (show _ = Value.bool false from by simp [upd, hs20, hs19, hs4, hs5])]; simp [go_sem, Act.eval]) fun F24 => ?_
                  refine ⟨?_⟩
                  clear F0 F1 F2 F3 F4 F5 F6 F7 F8 F9 F10 F11 F12 F13 F14 F15 F16 F17 F18 F19 F20 F21 F22 F23 F24 hs20 hs19 hs4 hs5 
                  simp only [Act.put, List.setIfInBounds_toArray, List.set_cons_succ, List.set_cons_zero]
                  have HPL : Hid _ := HRX.out.play ok owh oa on od ou hi_ HS.out HLS.out (by omega) hcd HOK.out.1 HOK.out.2.1 HOK.out.2.2.1 HOK.out.2.2.2
                  clear hcd
                  go_wp2_with fail
                  refine Calls.mono HPL.out ?_
                  rintro e9 w9 ⟨rfl, ps', hR9⟩
                  have HR9 : Hid (RI w is (q + 1) ps' w9) := hR9
                  clear hR9 HPL
                  go_wp2_with fail
                  go_roundw
                  case rel => exact ⟨q + 1, ps', by omega, by omega, by go_num, HR9.out⟩
                  case measure => simp [intOf]; omega
            · have c4 : ¬ ok ≤ 4 := k4
              go_upto_region 13 with fail
              refine wp_region_lit ?_
              refine withFrS (N := 92) rfl ?_
              intro f0 F0 hff
              have hs20 : f0 20 = Value.pointer (some ⟨i.pb, 0, none⟩) := hff 20
              have hs19 : f0 19 = Value.pointer (some ⟨ob, 0, none⟩) := hff 19
              have hs4 : f0 4 = Value.int .i64 lo := hff 4
              have hs5 : f0 5 = Value.int .i64 hi := hff 5
              clear hff
              refine syp F0 rfl (by omega) (wanted_none rfl) (v := Value.pointer (some ⟨i.pb, 0, none⟩)) (by simp only [execOp, (F0.eval 20 (by omega)).trans (show _ = Value.pointer (some ⟨i.pb, 0, none⟩) from by simp [upd, hs20, hs19, hs4, hs5])]; first | rfl | simp [go_sem]) fun F1 => ?_
              refine syp F1 rfl (by omega) (wanted_none rfl) (v := Value.bool false) (by simp only [execOp, (F1.eval 63 (by omega)).trans (show _ = Value.pointer (some ⟨i.pb, 0, none⟩) from by simp [upd, hs20, hs19, hs4, hs5])]; simp [go_sem, Act.eval]) fun F2 => ?_
              refine syp F2 rfl (by omega) (wanted_none rfl) (v := Value.bool false) (by simp only [execOp, (F2.eval 64 (by omega)).trans (show _ = Value.bool false from by simp [upd, hs20, hs19, hs4, hs5])]; first | rfl | simp [go_sem]) fun F3 => ?_
              refine syp F3 rfl (by omega) (want_yes F3 rfl (e := 65) rfl (by omega) (show _ = Value.bool false from by simp [upd, hs20, hs19, hs4, hs5])) (v := Value.pointer (some ⟨ob, 0, none⟩)) (by simp only [execOp, (F3.eval 19 (by omega)).trans (show _ = Value.pointer (some ⟨ob, 0, none⟩) from by simp [upd, hs20, hs19, hs4, hs5])]; simp [go_sem, Act.eval]) fun F4 => ?_
              refine syp F4 rfl (by omega) (want_yes F4 rfl (e := 65) rfl (by omega) (show _ = Value.bool false from by simp [upd, hs20, hs19, hs4, hs5])) (v := Value.int .i64 ok) (by simp only [execOp, (F4.eval 66 (by omega)).trans (show _ = Value.pointer (some ⟨ob, 0, none⟩) from by simp [upd, hs20, hs19, hs4, hs5])]; simp [go_sem, Act.eval, x0]) fun F5 => ?_
              refine syp F5 rfl (by omega) (want_yes F5 rfl (e := 65) rfl (by omega) (show _ = Value.bool false from by simp [upd, hs20, hs19, hs4, hs5])) (v := Value.bool true) (by simp only [execOp, (F5.eval 67 (by omega)).trans (show _ = Value.int .i64 ok from by simp [upd, hs20, hs19, hs4, hs5])]; simp [go_sem, Act.eval, c2]) fun F6 => ?_
              refine syp F6 rfl (by omega) (want_yes F6 rfl (e := 65) rfl (by omega) (show _ = Value.bool false from by simp [upd, hs20, hs19, hs4, hs5])) (v := Value.bool true) (by simp only [execOp, (F6.eval 68 (by omega)).trans (show _ = Value.bool true from by simp [upd, hs20, hs19, hs4, hs5])]; first | rfl | simp [go_sem]) fun F7 => ?_
              refine syp F7 rfl (by omega) (want_yes F7 rfl (e := 69) rfl (by omega) (show _ = Value.bool true from by simp [upd, hs20, hs19, hs4, hs5])) (v := Value.pointer (some ⟨ob, 0, none⟩)) (by simp only [execOp, (F7.eval 19 (by omega)).trans (show _ = Value.pointer (some ⟨ob, 0, none⟩) from by simp [upd, hs20, hs19, hs4, hs5])]; simp [go_sem, Act.eval]) fun F8 => ?_
              refine syp F8 rfl (by omega) (want_yes F8 rfl (e := 69) rfl (by omega) (show _ = Value.bool true from by simp [upd, hs20, hs19, hs4, hs5])) (v := Value.int .i64 ok) (by simp only [execOp, (F8.eval 70 (by omega)).trans (show _ = Value.pointer (some ⟨ob, 0, none⟩) from by simp [upd, hs20, hs19, hs4, hs5])]; simp [go_sem, Act.eval, x0]) fun F9 => ?_
              refine syp F9 rfl (by omega) (want_yes F9 rfl (e := 69) rfl (by omega) (show _ = Value.bool true from by simp [upd, hs20, hs19, hs4, hs5])) (v := Value.bool false) (by simp only [execOp, (F9.eval 71 (by omega)).trans (show _ = Value.int .i64 ok from by simp [upd, hs20, hs19, hs4, hs5])]; simp [go_sem, Act.eval, c4]) fun F10 => ?_
              refine syp F10 rfl (by omega) (want_yes F10 rfl (e := 65) rfl (by omega) (show _ = Value.bool false from by simp [upd, hs20, hs19, hs4, hs5])) (v := Value.bool false) (by simp only [execOp, (F10.eval 69 (by omega)).trans (show _ = Value.bool true from by simp [upd, hs20, hs19, hs4, hs5]), (F10.eval 72 (by omega)).trans (show _ = Value.bool false from by simp [upd, hs20, hs19, hs4, hs5])]; simp [go_sem, Act.eval]) fun F11 => ?_
              refine syp F11 rfl (by omega) (want_yes F11 rfl (e := 65) rfl (by omega) (show _ = Value.bool false from by simp [upd, hs20, hs19, hs4, hs5])) (v := Value.bool false) (by simp only [execOp, (F11.eval 73 (by omega)).trans (show _ = Value.bool false from by simp [upd, hs20, hs19, hs4, hs5])]; first | rfl | simp [go_sem]) fun F12 => ?_
              refine snp F12 rfl (by omega) (want_no F12 rfl (e := 74) rfl (by omega) (show _ = Value.bool false from by simp [upd, hs20, hs19, hs4, hs5]) (by decide)) fun F13 => ?_
              refine snp F13 rfl (by omega) (want_no F13 rfl (e := 74) rfl (by omega) (show _ = Value.bool false from by simp [upd, hs20, hs19, hs4, hs5]) (by decide)) fun F14 => ?_
              refine snp F14 rfl (by omega) (want_no F14 rfl (e := 74) rfl (by omega) (show _ = Value.bool false from by simp [upd, hs20, hs19, hs4, hs5]) (by decide)) fun F15 => ?_
              refine snp F15 rfl (by omega) (want_no F15 rfl (e := 74) rfl (by omega) (show _ = Value.bool false from by simp [upd, hs20, hs19, hs4, hs5]) (by decide)) fun F16 => ?_
              refine snp F16 rfl (by omega) (want_no F16 rfl (e := 74) rfl (by omega) (show _ = Value.bool false from by simp [upd, hs20, hs19, hs4, hs5]) (by decide)) fun F17 => ?_
              refine snp F17 rfl (by omega) (want_not F17 rfl (e := 79) rfl (by omega) (show _ = undef from by simp [upd, hs20, hs19, hs4, hs5])) fun F18 => ?_
              refine snp F18 rfl (by omega) (want_not F18 rfl (e := 79) rfl (by omega) (show _ = undef from by simp [upd, hs20, hs19, hs4, hs5])) fun F19 => ?_
              refine snp F19 rfl (by omega) (want_not F19 rfl (e := 79) rfl (by omega) (show _ = undef from by simp [upd, hs20, hs19, hs4, hs5])) fun F20 => ?_
              refine snp F20 rfl (by omega) (want_not F20 rfl (e := 79) rfl (by omega) (show _ = undef from by simp [upd, hs20, hs19, hs4, hs5])) fun F21 => ?_
              refine snp F21 rfl (by omega) (want_no F21 rfl (e := 74) rfl (by omega) (show _ = Value.bool false from by simp [upd, hs20, hs19, hs4, hs5]) (by decide)) fun F22 => ?_
              refine syp F22 rfl (by omega) (want_yes F22 rfl (e := 65) rfl (by omega) (show _ = Value.bool false from by simp [upd, hs20, hs19, hs4, hs5])) (v := Value.bool false) (by simp only [execOp, (F22.eval 74 (by omega)).trans (show _ = Value.bool false from by simp [upd, hs20, hs19, hs4, hs5])]; simp [go_sem, Act.eval]) fun F23 => ?_
              refine syp F23 rfl (by omega) (wanted_none rfl) (v := Value.bool false) (by simp only [execOp, (F23.eval 65 (by omega)).trans (show _ = Value.bool false from by simp [upd, hs20, hs19, hs4, hs5]), (F23.eval 85 (by omega)).trans (show _ = Value.bool false from by simp [upd, hs20, hs19, hs4, hs5])]; simp [go_sem, Act.eval]) fun F24 => ?_
              refine ⟨?_⟩
              clear F0 F1 F2 F3 F4 F5 F6 F7 F8 F9 F10 F11 F12 F13 F14 F15 F16 F17 F18 F19 F20 F21 F22 F23 F24 hs20 hs19 hs4 hs5 
              simp only [Act.put, List.setIfInBounds_toArray, List.set_cons_succ, List.set_cons_zero]
              have HPL : Hid _ := HRX.out.play ok owh oa on od ou hi_ HS.out HLS.out (by omega) hcd HOK.out.1 HOK.out.2.1 HOK.out.2.2.1 HOK.out.2.2.2
              clear hcd
              go_wp2_with fail
              refine Calls.mono HPL.out ?_
              rintro e9 w9 ⟨rfl, ps', hR9⟩
              have HR9 : Hid (RI w is (q + 1) ps' w9) := hR9
              clear hR9 HPL
              go_wp2_with fail
              go_roundw
              case rel => exact ⟨q + 1, ps', by omega, by omega, by go_num, HR9.out⟩
              case measure => simp [intOf]; omega
          · have c2 : ¬ (2 : Int) ≤ ok := k2
            go_upto_region 13 with fail
            refine wp_region_lit ?_
            refine withFrS (N := 92) rfl ?_
            intro f0 F0 hff
            have hs20 : f0 20 = Value.pointer (some ⟨i.pb, 0, none⟩) := hff 20
            have hs19 : f0 19 = Value.pointer (some ⟨ob, 0, none⟩) := hff 19
            have hs4 : f0 4 = Value.int .i64 lo := hff 4
            have hs5 : f0 5 = Value.int .i64 hi := hff 5
            clear hff
            refine syp F0 rfl (by omega) (wanted_none rfl) (v := Value.pointer (some ⟨i.pb, 0, none⟩)) (by simp only [execOp, (F0.eval 20 (by omega)).trans (show _ = Value.pointer (some ⟨i.pb, 0, none⟩) from by simp [upd, hs20, hs19, hs4, hs5])]; first | rfl | simp [go_sem]) fun F1 => ?_
            refine syp F1 rfl (by omega) (wanted_none rfl) (v := Value.bool false) (by simp only [execOp, (F1.eval 63 (by omega)).trans (show _ = Value.pointer (some ⟨i.pb, 0, none⟩) from by simp [upd, hs20, hs19, hs4, hs5])]; simp [go_sem, Act.eval]) fun F2 => ?_
            refine syp F2 rfl (by omega) (wanted_none rfl) (v := Value.bool false) (by simp only [execOp, (F2.eval 64 (by omega)).trans (show _ = Value.bool false from by simp [upd, hs20, hs19, hs4, hs5])]; first | rfl | simp [go_sem]) fun F3 => ?_
            refine syp F3 rfl (by omega) (want_yes F3 rfl (e := 65) rfl (by omega) (show _ = Value.bool false from by simp [upd, hs20, hs19, hs4, hs5])) (v := Value.pointer (some ⟨ob, 0, none⟩)) (by simp only [execOp, (F3.eval 19 (by omega)).trans (show _ = Value.pointer (some ⟨ob, 0, none⟩) from by simp [upd, hs20, hs19, hs4, hs5])]; simp [go_sem, Act.eval]) fun F4 => ?_
            refine syp F4 rfl (by omega) (want_yes F4 rfl (e := 65) rfl (by omega) (show _ = Value.bool false from by simp [upd, hs20, hs19, hs4, hs5])) (v := Value.int .i64 ok) (by simp only [execOp, (F4.eval 66 (by omega)).trans (show _ = Value.pointer (some ⟨ob, 0, none⟩) from by simp [upd, hs20, hs19, hs4, hs5])]; simp [go_sem, Act.eval, x0]) fun F5 => ?_
            refine syp F5 rfl (by omega) (want_yes F5 rfl (e := 65) rfl (by omega) (show _ = Value.bool false from by simp [upd, hs20, hs19, hs4, hs5])) (v := Value.bool false) (by simp only [execOp, (F5.eval 67 (by omega)).trans (show _ = Value.int .i64 ok from by simp [upd, hs20, hs19, hs4, hs5])]; simp [go_sem, Act.eval, c2]) fun F6 => ?_
            refine syp F6 rfl (by omega) (want_yes F6 rfl (e := 65) rfl (by omega) (show _ = Value.bool false from by simp [upd, hs20, hs19, hs4, hs5])) (v := Value.bool false) (by simp only [execOp, (F6.eval 68 (by omega)).trans (show _ = Value.bool false from by simp [upd, hs20, hs19, hs4, hs5])]; first | rfl | simp [go_sem]) fun F7 => ?_
            refine snp F7 rfl (by omega) (want_no F7 rfl (e := 69) rfl (by omega) (show _ = Value.bool false from by simp [upd, hs20, hs19, hs4, hs5]) (by decide)) fun F8 => ?_
            refine snp F8 rfl (by omega) (want_no F8 rfl (e := 69) rfl (by omega) (show _ = Value.bool false from by simp [upd, hs20, hs19, hs4, hs5]) (by decide)) fun F9 => ?_
            refine snp F9 rfl (by omega) (want_no F9 rfl (e := 69) rfl (by omega) (show _ = Value.bool false from by simp [upd, hs20, hs19, hs4, hs5]) (by decide)) fun F10 => ?_
            refine syp F10 rfl (by omega) (want_yes F10 rfl (e := 65) rfl (by omega) (show _ = Value.bool false from by simp [upd, hs20, hs19, hs4, hs5])) (v := Value.bool false) (by simp only [execOp, (F10.eval 69 (by omega)).trans (show _ = Value.bool false from by simp [upd, hs20, hs19, hs4, hs5])]; simp [go_sem, Act.eval]) fun F11 => ?_
            refine syp F11 rfl (by omega) (want_yes F11 rfl (e := 65) rfl (by omega) (show _ = Value.bool false from by simp [upd, hs20, hs19, hs4, hs5])) (v := Value.bool false) (by simp only [execOp, (F11.eval 73 (by omega)).trans (show _ = Value.bool false from by simp [upd, hs20, hs19, hs4, hs5])]; first | rfl | simp [go_sem]) fun F12 => ?_
            refine snp F12 rfl (by omega) (want_no F12 rfl (e := 74) rfl (by omega) (show _ = Value.bool false from by simp [upd, hs20, hs19, hs4, hs5]) (by decide)) fun F13 => ?_
            refine snp F13 rfl (by omega) (want_no F13 rfl (e := 74) rfl (by omega) (show _ = Value.bool false from by simp [upd, hs20, hs19, hs4, hs5]) (by decide)) fun F14 => ?_
            refine snp F14 rfl (by omega) (want_no F14 rfl (e := 74) rfl (by omega) (show _ = Value.bool false from by simp [upd, hs20, hs19, hs4, hs5]) (by decide)) fun F15 => ?_
            refine snp F15 rfl (by omega) (want_no F15 rfl (e := 74) rfl (by omega) (show _ = Value.bool false from by simp [upd, hs20, hs19, hs4, hs5]) (by decide)) fun F16 => ?_
            refine snp F16 rfl (by omega) (want_no F16 rfl (e := 74) rfl (by omega) (show _ = Value.bool false from by simp [upd, hs20, hs19, hs4, hs5]) (by decide)) fun F17 => ?_
            refine snp F17 rfl (by omega) (want_not F17 rfl (e := 79) rfl (by omega) (show _ = undef from by simp [upd, hs20, hs19, hs4, hs5])) fun F18 => ?_
            refine snp F18 rfl (by omega) (want_not F18 rfl (e := 79) rfl (by omega) (show _ = undef from by simp [upd, hs20, hs19, hs4, hs5])) fun F19 => ?_
            refine snp F19 rfl (by omega) (want_not F19 rfl (e := 79) rfl (by omega) (show _ = undef from by simp [upd, hs20, hs19, hs4, hs5])) fun F20 => ?_
            refine snp F20 rfl (by omega) (want_not F20 rfl (e := 79) rfl (by omega) (show _ = undef from by simp [upd, hs20, hs19, hs4, hs5])) fun F21 => ?_
            refine snp F21 rfl (by omega) (want_no F21 rfl (e := 74) rfl (by omega) (show _ = Value.bool false from by simp [upd, hs20, hs19, hs4, hs5]) (by decide)) fun F22 => ?_
            refine syp F22 rfl (by omega) (want_yes F22 rfl (e := 65) rfl (by omega) (show _ = Value.bool false from by simp [upd, hs20, hs19, hs4, hs5])) (v := Value.bool false) (by simp only [execOp, (F22.eval 74 (by omega)).trans (show _ = Value.bool false from by simp [upd, hs20, hs19, hs4, hs5])]; simp [go_sem, Act.eval]) fun F23 => ?_
            refine syp F23 rfl (by omega) (wanted_none rfl) (v := Value.bool false) (by simp only [execOp, (F23.eval 65 (by omega)).trans (show _ = Value.bool false from by simp [upd, hs20, hs19, hs4, hs5]), (F23.eval 85 (by omega)).trans (show _ = Value.bool false from by simp [upd, hs20, hs19, hs4, hs5])]; simp [go_sem, Act.eval]) fun F24 => ?_
            refine ⟨?_⟩
            clear F0 F1 F2 F3 F4 F5 F6 F7 F8 F9 F10 F11 F12 F13 F14 F15 F16 F17 F18 F19 F20 F21 F22 F23 F24 hs20 hs19 hs4 hs5 
            simp only [Act.put, List.setIfInBounds_toArray, List.set_cons_succ, List.set_cons_zero]
            have HPL : Hid _ := HRX.out.play ok owh oa on od ou hi_ HS.out HLS.out (by omega) hcd HOK.out.1 HOK.out.2.1 HOK.out.2.2.1 HOK.out.2.2.2
            clear hcd
            go_wp2_with fail
            refine Calls.mono HPL.out ?_
            rintro e9 w9 ⟨rfl, ps', hR9⟩
            have HR9 : Hid (RI w is (q + 1) ps' w9) := hR9
            clear hR9 HPL
            go_wp2_with fail
            go_roundw
            case rel => exact ⟨q + 1, ps', by omega, by omega, by go_num, HR9.out⟩
            case measure => simp [intOf]; omega
      )
    · have HBF : Hid (Below w.heap.size w wr) := HR.out.bel
      by_cases hq3 : q < Ns
      · have hq4 : ¬ q < 200 := by omega
        clear hlt
        go_wp2_with fail
        go_ret
        exact ⟨rfl, HBF.out⟩
      · clear hlt
        go_wp2_with fail
        go_ret
        exact ⟨rfl, HBF.out⟩
end Go.Proofs.YtjmbhaoehfdpoaaDoor
namespace Go.Proofs.YtjmbhaoehfdpoaaDoor
open Go.RowKit Go.PlainAid Go.MapKept
set_option linter.unusedVariables false
set_option linter.unusedSimpArgs false
set_option maxRecDepth 100000 in
theorem ticks_law {S : Led.Sens} {Ls : Nat} (me peer nr : Int) (ao : Option Addr) (Ns cap : Nat) (os : List GO) (w : World) (hS : Led.Sen S Ls w) (hL : Ls ≤ w.heap.size) (hl : os.length = Ns) (hcm : Ns ≤ maxLen)
    (hat : 0 < Ns → ∃ b off, ao = some ⟨b, off, none⟩ ∧ ∀ j o, os[j]? = some o → GAt w b (off + j * 6) o) (hok : ∀ o ∈ os, o.ok2) :
    Calls Tryd.prog 4 #[.int .i64 me, .int .i64 peer, .int .i64 nr, .slice ao Ns cap] w fun e w' => e = .returned (.bool true) ∧ Below w.heap.size w w' := by
  have HR : Hid _ := run_any me peer nr 2 2 ao Ns cap os w hS hL hl hcm hat hok
  clear hS hL hl hcm hat hok
  go_enter Tryd.func4, Tryd.ntmps4
  go_wp2_with fail
  refine Calls.mono HR.out ?_
  rintro e9 w9 ⟨rfl, hb⟩
  have HB : Hid (Below w.heap.size w w9) := hb
  clear hb HR
  go_wp2_with fail
  go_ret
  exact ⟨rfl, HB.out⟩
set_option maxRecDepth 100000 in
theorem gives_law {S : Led.Sens} {Ls : Nat} (me peer nr : Int) (ao : Option Addr) (Ns cap : Nat) (os : List GO) (w : World) (hS : Led.Sen S Ls w) (hL : Ls ≤ w.heap.size) (hl : os.length = Ns) (hcm : Ns ≤ maxLen)
    (hat : 0 < Ns → ∃ b off, ao = some ⟨b, off, none⟩ ∧ ∀ j o, os[j]? = some o → GAt w b (off + j * 6) o) (hok : ∀ o ∈ os, o.ok2) :
    Calls Tryd.prog 5 #[.int .i64 me, .int .i64 peer, .int .i64 nr, .slice ao Ns cap] w fun e w' => e = .returned (.bool true) ∧ Below w.heap.size w w' := by
  have HR : Hid _ := run_any me peer nr 3 3 ao Ns cap os w hS hL hl hcm hat hok
  clear hS hL hl hcm hat hok
  go_enter Tryd.func5, Tryd.ntmps5
  go_wp2_with fail
  refine Calls.mono HR.out ?_
  rintro e9 w9 ⟨rfl, hb⟩
  have HB : Hid (Below w.heap.size w w9) := hb
  clear hb HR
  go_wp2_with fail
  go_ret
  exact ⟨rfl, HB.out⟩
set_option maxRecDepth 100000 in
theorem gall_law {S : Led.Sens} {Ls : Nat} (me peer nr : Int) (ao : Option Addr) (Ns cap : Nat) (os : List GO) (w : World) (hS : Led.Sen S Ls w) (hL : Ls ≤ w.heap.size) (hl : os.length = Ns) (hcm : Ns ≤ maxLen)
    (hat : 0 < Ns → ∃ b off, ao = some ⟨b, off, none⟩ ∧ ∀ j o, os[j]? = some o → GAt w b (off + j * 6) o) (hok : ∀ o ∈ os, o.ok2) :
    Calls Tryd.prog 6 #[.int .i64 me, .int .i64 peer, .int .i64 nr, .slice ao Ns cap] w fun e w' => e = .returned (.bool true) ∧ Below w.heap.size w w' := by
  have HR : Hid _ := run_any me peer nr 2 4 ao Ns cap os w hS hL hl hcm hat hok
  clear hS hL hl hcm hat hok
  go_enter Tryd.func6, Tryd.ntmps6
  go_wp2_with fail
  refine Calls.mono HR.out ?_
  rintro e9 w9 ⟨rfl, hb⟩
  have HB : Hid (Below w.heap.size w w9) := hb
  clear hb HR
  go_wp2_with fail
  go_ret
  exact ⟨rfl, HB.out⟩
end Go.Proofs.YtjmbhaoehfdpoaaDoor
namespace Go.Proofs.YtjmbhaoehfdpoaaDoor
open Go.ChangeShapes Go.WideShapes Go.ChangeAt Go.RowKit Go.WideMaps Go.WideElems Go.PlainAid
set_option linter.unusedVariables false
theorem ownKn : ownKnob Tryd.prog.godebug = none := by kernel_rfl
theorem laidOut : laidOutB Tryd.prog = true := by kernel_rfl
theorem gArg : Tryd.prog.globalNamed "sluice/ledger.errArg" = some 0 := by kernel_rfl
theorem gCap : Tryd.prog.globalNamed "sluice/ledger.errCap" = some 1 := by kernel_rfl
theorem gRights : Tryd.prog.globalNamed "sluice/ledger.errRights" = some 2 := by kernel_rfl
theorem gArgT : (Tryd.prog.globals[0]?).map (·.type) = some 105 := by kernel_rfl
theorem gCapT : (Tryd.prog.globals[1]?).map (·.type) = some 105 := by kernel_rfl
theorem gRightsT : (Tryd.prog.globals[2]?).map (·.type) = some 105 := by kernel_rfl
theorem cells173 : Tryd.prog.cellsOf 173 = 1 := by kernel_rfl
theorem cells9 : Tryd.prog.cellsOf 9 = 1 := by kernel_rfl
theorem star : "*" ++ "errors.errorString" = "*errors.errorString" := by decide
theorem row149 (u : TypeId) (h : Tryd.prog.typeName? 3 u = some "*errors.errorString") : u = 149 :=
  typeName_ptr_named (nm := "errors.errorString") (by rw [star]; kernel_rfl) (by kernel_rfl) (by decide) u (by rw [star]; exact h)
/-- What the row's list gives: the three errors. -/
theorem sen_of {W : World} (h : laidMetH Tryd.prog [("sluice/ledger.errArg", Rows.laid_sluice_ledger_errArg), ("sluice/ledger.errRights", Rows.laid_sluice_ledger_errRights), ("sluice/ledger.errCap", Rows.laid_sluice_ledger_errCap)] W) : ∃ S, Led.Sen S W.heap.size W := by
  rw [Go.MakeChecks.laidMetH_plain _ _ _ (by rfl)] at h
  obtain ⟨a0, a2, s0, s2, c0, c2, t0, t2, hv0, hv2, hc0, hs0, _, hc2, hs2, _, hne02, hb0, hb2⟩ := laid_sentinels2 h gArg gArgT gRights gRightsT Tryd.underlying105 row149 Tryd.underlying149 Tryd.underlying173 rfl rfl Tryd.underlying9 cells173 cells9
  obtain ⟨b2, a1, s2', s1, c2', c1, t2', t1, hv2', hv1, hc2', hs2', _, hc1, hs1, _, hne21, hb2', hb1⟩ := laid_sentinels2 h.tail gRights gRightsT gCap gCapT Tryd.underlying105 row149 Tryd.underlying149 Tryd.underlying173 rfl rfl Tryd.underlying9 cells173 cells9
  have e : a2 = b2 := by
    have := hv2.symm.trans hv2'
    simpa using this
  subst e
  have hne01 : a0 ≠ a1 := fun e => by
    subst e
    have e2 : s0 = s1 := by simpa using hc0.symm.trans hc1
    subst e2
    exact absurd (hs0.symm.trans hs1) (by decide)
  have hlt : ∀ (a : Addr) c t, W.heap[a.block]? = some (Obj.cells c t (0, 0)) → a.block < W.heap.size := fun a c t h => (Array.getElem?_eq_some_iff.1 h).1
  have x0 : W.cell? ⟨0, 0, none⟩ = some (.iface 149 (.pointer (some a0))) := by simpa using World.var?_cell gArg hv0 0
  have x1 : W.cell? ⟨1, 0, none⟩ = some (.iface 149 (.pointer (some a1))) := by simpa using World.var?_cell gCap hv1 0
  have x2 : W.cell? ⟨2, 0, none⟩ = some (.iface 149 (.pointer (some a2))) := by simpa using World.var?_cell gRights hv2 0
  have := World.block_lt_of_cell? _ _ x2
  exact ⟨⟨a0, a1, a2⟩, x0, x1, x2, hne01, hne02, Ne.symm hne21, ⟨_, _, hb0⟩, ⟨_, _, hb1⟩, ⟨_, _, hb2⟩, ⟨hlt _ _ _ hb0, hlt _ _ _ hb1, hlt _ _ _ hb2, this⟩⟩
theorem cells3 : Tryd.prog.cellsOf 3 = 1 := by kernel_rfl
theorem cells36 : Tryd.prog.cellsOf 36 = 2 := by kernel_rfl
theorem cells38 : Tryd.prog.cellsOf 38 = 6 := by kernel_rfl
theorem list_of {α : Type} (P : Nat → α → Prop) : ∀ n, (∀ i, i < n → ∃ c, P i c) → ∃ cs : List α, cs.length = n ∧ ∀ i c, cs[i]? = some c → P i c
  | 0, _ => ⟨[], rfl, fun i c h => by simp at h⟩
  | n + 1, h => by
    obtain ⟨cs, hl, hc⟩ := list_of P n fun i hi => h i (by omega)
    obtain ⟨c, hP⟩ := h n (by omega)
    refine ⟨cs ++ [c], by simp [hl], fun i c' hi => ?_⟩
    by_cases hin : i < n
    · rw [List.getElem?_append_left (by omega)] at hi
      exact hc i c' hi
    · rw [List.getElem?_append_right (by omega)] at hi
      by_cases e0 : i - cs.length = 0
      · rw [e0] at hi
        cases hi
        rw [show i = n from by omega]
        exact hP
      · rw [List.getElem?_eq_none (by simp; omega)] at hi; cases hi
theorem spot_none {W : World} {a : Addr} {v : Value} (h : W.cell? a = some v) : ∃ b off, a = ⟨b, off, none⟩ := by
  obtain ⟨b, off, sp⟩ := a
  cases sp with
  | none => exact ⟨b, off, rfl⟩
  | some s =>
    unfold World.cell? at h
    split at h <;> simp at h
theorem weights_all {H : Type} {P : Program} {e : TypeId} : ∀ {ds : List (DataW H)} {i : Nat} {d : DataW H}, ds[i]? = some d → ∀ n ∈ d.weights P e, n ∈ DataW.weightsAll P e ds
  | d0 :: ds, 0, d, hd, n, hn => by
    simp only [List.getElem?_cons_zero, Option.some.injEq] at hd
    subst hd
    simp only [DataW.weightsAll, List.mem_append]
    exact .inl hn
  | d0 :: ds, i + 1, d, hd, n, hn => by
    simp only [List.getElem?_cons_succ] at hd
    simp only [DataW.weightsAll, List.mem_append]
    exact .inr (weights_all hd n hn)
  | [], _, _, hd, _, _ => by simp at hd
theorem uncons {α : Type} {l : List α} {n : Nat} (h : l.length = n + 1) : ∃ a t, l = a :: t ∧ t.length = n := by
  cases l with
  | nil => simp at h
  | cons a t => exact ⟨a, t, rfl, by simpa using h⟩
/-- Cells in a row. -/
def RowAt (W : World) (b off : Nat) (cs : List Value) : Prop := ∀ j v, cs[j]? = some v → W.cell? ⟨b, off + j, none⟩ = some v
theorem RowAt.below {W W' : World} {L b off : Nat} {cs : List Value} (h : RowAt W b off cs) (hb : Below L W W') (hL : b < L) : RowAt W' b off cs := fun j v hv => (hb.cell (p := ⟨b, off + j, none⟩) hL).trans (h j v hv)
theorem RowAt.lt {W : World} {b off : Nat} {cs : List Value} (h : RowAt W b off cs) (h0 : 0 < cs.length) : b < W.heap.size := World.block_lt_of_cell? W _ (h 0 _ (List.getElem?_eq_getElem h0))
def In64 (z : Int) : Prop := (-9223372036854775808 : Int) ≤ z ∧ z ≤ 9223372036854775807
def GO.row (o : GO) : List Value := [.int .i64 o.k, .int .i64 o.wh, .int .i64 o.a, .string ⟨o.n.toArray⟩, .int .i64 o.d, .int .i64 o.u]
def GO.okL (o : GO) : Prop := o.n.length ≤ 140737488351232
theorem RowAt.go {W : World} {b off : Nat} {o : GO} (h : RowAt W b off o.row) : GAt W b off o := ⟨h 0 _ rfl, h 1 _ rfl, h 2 _ rfl, h 3 _ rfl, h 4 _ rfl, h 5 _ rfl⟩
section
variable {H : Type} {enc : TypeId × Value → H} {W : World} {fuel : Nat} {cs : List Value} {x : DataW H × List MemPlace}
set_option maxRecDepth 100000
set_option maxHeartbeats 1600000
theorem t_int {t : TypeId} (hu : Tryd.prog.underlying t = some (.int .i64)) (h : DataW.trod enc Tryd.prog W 0 (fun _ => true) true fuel t cs = some x) : ∃ z, cs = [.int .i64 z] ∧ In64 z := by
  obtain ⟨z, e, _, hw⟩ := DataW.trod_int hu h
  have := bounds_i64 hw
  exact ⟨z, e, by unfold In64; omega⟩
theorem t_str {t : TypeId} (hu : Tryd.prog.underlying t = some .string) (h : DataW.trod enc Tryd.prog W 0 (fun _ => true) true fuel t cs = some x) (hw : ∀ n ∈ x.1.weights Tryd.prog t, n ≤ reachBytes) : ∃ s : List UInt8, cs = [.string ⟨s.toArray⟩] ∧ s.length ≤ 140737488351232 := by
  obtain ⟨s, e, hx, _⟩ := DataW.trod_string hu h
  refine ⟨s.data.toList, e, ?_⟩
  have := hw s.data.toList.length (by rw [hx]; simp [DataW.weights])
  exact this
theorem t_two {t : TypeId} {f0 f1 : Field} (hu : Tryd.prog.underlying t = some (.struct #[f0, f1])) (hc : Tryd.prog.cellsOf t = 2) (t0 : f0.type = 3) (t1 : f1.type = 3) (o0 : f0.offset = 0) (o1 : f1.offset = 1)
    (h : DataW.trod enc Tryd.prog W 0 (fun _ => true) true fuel t cs = some x) : ∃ a b, cs = [.int .i64 a, .int .i64 b] ∧ In64 a ∧ In64 b := by
  obtain ⟨xs, m, _, hx, hl, hxl, hf⟩ := DataW.trod_struct hu h
  have hxl' : xs.length = 2 := hxl
  rw [hc] at hl
  obtain ⟨c0, l1, rfl, k1⟩ := uncons hl
  obtain ⟨c1, l2, rfl, k2⟩ := uncons k1
  obtain rfl := List.eq_nil_of_length_eq_zero k2
  have h0 := hf 0 f0 rfl
  have h1 := hf 1 f1 rfl
  rw [t0, o0, cells3, List.getElem?_eq_getElem (by omega)] at h0
  rw [t1, o1, cells3, List.getElem?_eq_getElem (by omega)] at h1
  obtain ⟨a, ea, ha⟩ := t_int Tryd.underlying3 h0
  obtain ⟨b, eb, hb⟩ := t_int Tryd.underlying3 h1
  simp only [List.drop_zero, List.take_succ_cons, List.take_zero, List.cons.injEq, and_true, List.drop_succ_cons] at ea eb
  exact ⟨a, b, by rw [ea, eb], ha, hb⟩
theorem w_part {t t' : TypeId} {fs : Array Field} {xs : List (DataW H × List MemPlace)} {i : Nat} {y : DataW H × List MemPlace} (hu : Tryd.prog.underlying t = some (.struct fs)) (hx : x = (.agg (xs.map (·.1)), xs.flatMap (·.2))) (hw : ∀ n ∈ x.1.weights Tryd.prog t, n ≤ reachBytes)
    (ht : (fs.toList.map (·.type))[i]? = some t') (hy : xs[i]? = some y) : ∀ n ∈ y.1.weights Tryd.prog t', n ≤ reachBytes := by
  intro n hn
  refine hw n ?_
  rw [hx]
  simp only [DataW.weights, hu]
  exact DataW.weights_mem_each ht (by rw [List.getElem?_map, hy]; rfl) n hn
theorem t_go (h : DataW.trod enc Tryd.prog W 0 (fun _ => true) true fuel 38 cs = some x) (hw : ∀ n ∈ x.1.weights Tryd.prog 38, n ≤ reachBytes) :
    ∃ o : GO, cs = o.row ∧ o.okL := by
  obtain ⟨xs, mm, _, hx, hl, hxl, hf⟩ := DataW.trod_struct Tryd.underlying38 h
  have hxl' : xs.length = 5 := hxl
  rw [cells38] at hl
  obtain ⟨c0, l1, rfl, k1⟩ := uncons hl
  obtain ⟨c1, l2, rfl, k2⟩ := uncons k1
  obtain ⟨c2, l3, rfl, k3⟩ := uncons k2
  obtain ⟨c3, l4, rfl, k4⟩ := uncons k3
  obtain ⟨c4, l5, rfl, k5⟩ := uncons k4
  obtain ⟨c5, l6, rfl, k6⟩ := uncons k5
  obtain rfl := List.eq_nil_of_length_eq_zero k6
  have y0 : xs[0]? = some xs[0] := List.getElem?_eq_getElem (by omega)
  have h0 : DataW.trod enc Tryd.prog W 0 (fun _ => true) true mm 3 [c0] = some xs[0] := by
    have e : DataW.trod enc Tryd.prog W 0 (fun _ => true) true mm 3 (List.take (Tryd.prog.cellsOf 3) (List.drop 0 [c0, c1, c2, c3, c4, c5])) = xs[0]? := hf 0 _ rfl
    rw [cells3, y0] at e
    exact e
  obtain ⟨z0, e0, b0⟩ := t_int Tryd.underlying3 h0
  have y1 : xs[1]? = some xs[1] := List.getElem?_eq_getElem (by omega)
  have h1 : DataW.trod enc Tryd.prog W 0 (fun _ => true) true mm 3 [c1] = some xs[1] := by
    have e : DataW.trod enc Tryd.prog W 0 (fun _ => true) true mm 3 (List.take (Tryd.prog.cellsOf 3) (List.drop 1 [c0, c1, c2, c3, c4, c5])) = xs[1]? := hf 1 _ rfl
    rw [cells3, y1] at e
    exact e
  obtain ⟨z1, e1, b1⟩ := t_int Tryd.underlying3 h1
  have y2 : xs[2]? = some xs[2] := List.getElem?_eq_getElem (by omega)
  have h2 : DataW.trod enc Tryd.prog W 0 (fun _ => true) true mm 3 [c2] = some xs[2] := by
    have e : DataW.trod enc Tryd.prog W 0 (fun _ => true) true mm 3 (List.take (Tryd.prog.cellsOf 3) (List.drop 2 [c0, c1, c2, c3, c4, c5])) = xs[2]? := hf 2 _ rfl
    rw [cells3, y2] at e
    exact e
  obtain ⟨z2, e2, b2⟩ := t_int Tryd.underlying3 h2
  have y3 : xs[3]? = some xs[3] := List.getElem?_eq_getElem (by omega)
  have h3 : DataW.trod enc Tryd.prog W 0 (fun _ => true) true mm 9 [c3] = some xs[3] := by
    have e : DataW.trod enc Tryd.prog W 0 (fun _ => true) true mm 9 (List.take (Tryd.prog.cellsOf 9) (List.drop 3 [c0, c1, c2, c3, c4, c5])) = xs[3]? := hf 3 _ rfl
    rw [cells9, y3] at e
    exact e
  obtain ⟨s3, e3, b3⟩ := t_str Tryd.underlying9 h3 (w_part Tryd.underlying38 hx hw (i := 3) rfl y3)
  have y4 : xs[4]? = some xs[4] := List.getElem?_eq_getElem (by omega)
  have h4 : DataW.trod enc Tryd.prog W 0 (fun _ => true) true mm 36 [c4, c5] = some xs[4] := by
    have e : DataW.trod enc Tryd.prog W 0 (fun _ => true) true mm 36 (List.take (Tryd.prog.cellsOf 36) (List.drop 4 [c0, c1, c2, c3, c4, c5])) = xs[4]? := hf 4 _ rfl
    rw [cells36, y4] at e
    exact e
  obtain ⟨p4, q4, e4, b4, d4⟩ := t_two Tryd.underlying36 cells36 rfl rfl rfl rfl h4
  clear hf h hl
  cases e0; cases e1; cases e2; cases e3; cases e4
  exact ⟨⟨z0, z1, z2, s3, p4, q4⟩, rfl, b3⟩
/-- A slice that came in, whatever its elements. -/
theorem open_rows {α : Type} (T e : TypeId) (sz : Nat) (f : α → List Value) (ok : α → Prop) (hu : Tryd.prog.underlying T = some (.slice e)) (hc : Tryd.prog.cellsOf e = sz) (h1 : 0 < sz) (hfl : ∀ a, (f a).length = sz)
    (hel : ∀ (fuel : Nat) (cs : List Value) (x : DataW H × List MemPlace), DataW.trod enc Tryd.prog W 0 (fun _ => true) true fuel e cs = some x → (∀ n ∈ x.1.weights Tryd.prog e, n ≤ reachBytes) → ∃ a, cs = f a ∧ ok a)
    {base : Nat} {v : Value} {d : DataW H} {p : List MemPlace} (hval : Value.okWide Tryd.prog W .any base T v) (h0 : DataW.Trod enc Tryd.prog W 0 (fun _ => true) true T v d p) (hsz : ∀ n ∈ d.weights Tryd.prog T, n ≤ reachBytes) :
    ∃ (ao : Option Addr) (N cap : Nat) (os : List α), v = .slice ao N cap ∧ os.length = N ∧ N ≤ cap ∧ cap ≤ maxLen ∧ (∀ o ∈ os, ok o) ∧ (ao = none → N = 0 ∧ cap = 0) ∧ (0 < N → ∃ b off, ao = some ⟨b, off, none⟩ ∧ ∀ i o, os[i]? = some o → RowAt W b (off + i * sz) (f o)) := by
  obtain ⟨a0, len, cap, rfl⟩ := okWide_slice hu hval
  obtain ⟨fuel, hf⟩ := h0
  rcases DataW.trod_slice hu hf with ⟨hcs, hx⟩ | ⟨a, len', cap', elems, rest, m, _, hcs, hx, _, hl, hm, hel2, he, _, _⟩
  · have e : Value.slice a0 len cap = .slice none 0 0 := by simpa [Value.cells] using hcs
    cases e
    exact ⟨none, 0, 0, [], rfl, rfl, Nat.le_refl _, Nat.zero_le _, (fun c hc => by cases hc), fun _ => ⟨rfl, rfl⟩, fun h => by omega⟩
  · have e : Value.slice a0 len cap = .slice (some a) len' cap' := by simpa [Value.cells] using hcs
    cases e
    rw [hc] at he
    have hxd : d = .slice (elems.map (·.1)) (rest.map (·.1)) := (Prod.mk.inj hx).1
    obtain ⟨cs, hcl, hcc⟩ := list_of (fun i o => (∃ b off, a.add (i * sz) = ⟨b, off, none⟩ ∧ RowAt W b off (f o)) ∧ ok o) len fun i hi => by
      have h2 := he i hi
      rw [List.getElem?_eq_getElem (by omega), Option.bind_eq_some_iff] at h2
      obtain ⟨cs, hcs2, ht⟩ := h2
      obtain ⟨_, hl2, hcell⟩ := World.cells?_some hcs2
      obtain ⟨o, rfl, ho⟩ := hel _ _ _ ht fun n hn => hsz n (by
        rw [hxd]
        simp only [DataW.weights, hu]
        refine List.mem_cons.2 (.inr (List.mem_append.2 (.inl ?_)))
        exact weights_all (i := i) (d := elems[i].1) (by rw [List.getElem?_map, List.getElem?_eq_getElem (by omega)]; rfl) n hn)
      have a0 := hcell 0 (by omega)
      rw [List.getElem?_eq_getElem (by rw [hfl]; exact h1)] at a0
      obtain ⟨b, off, e2⟩ := spot_none (show W.cell? (a.add (i * sz)) = some _ from a0)
      refine ⟨o, ⟨b, off, e2, fun j v hv => ?_⟩, ho⟩
      have hj := (List.getElem?_eq_some_iff.1 hv).1
      have := hcell j (by rw [hfl] at hj; omega)
      rw [e2, addr_add, hv] at this
      exact this
    refine ⟨some a, len, cap, cs, rfl, hcl, hl, by omega, fun c hcm => ?_, (fun h => by cases h), fun hN => ?_⟩
    · obtain ⟨i, hi⟩ := List.getElem?_of_mem hcm
      exact (hcc i c hi).2
    · obtain ⟨⟨b, off, e0, _⟩, _⟩ := hcc 0 cs[0] (List.getElem?_eq_getElem (by omega))
      rw [Nat.zero_mul, show a.add 0 = a from rfl] at e0
      subst e0
      refine ⟨b, off, rfl, fun i c hi => ?_⟩
      obtain ⟨⟨b2, off2, e2, h2⟩, _⟩ := hcc i c hi
      rw [addr_add] at e2
      cases e2
      exact h2
end
/-- A world for the witness: the errors as their initialisers lay them. -/
noncomputable def low : Nat := (World.holding Tryd.prog default ⟨#[], #[], []⟩).heap.size
noncomputable def laidWorld (os : Os) : World :=
  let w0 := World.holding Tryd.prog os ⟨#[.cells #[.string ⟨#[108, 101, 100, 103, 101, 114, 58, 32, 97, 32, 110, 117, 109, 98, 101, 114, 32, 116, 104, 97, 116, 32, 109, 97, 121, 32, 110, 111, 116, 32, 98, 101]⟩] 173, .cells #[.string ⟨#[108, 101, 100, 103, 101, 114, 58, 32, 109, 111, 114, 101, 32, 116, 104, 97, 110, 32, 116, 104, 101, 32, 99, 97, 112, 32, 104, 97, 115, 32, 114, 111, 111, 109, 32, 102, 111, 114]⟩] 173, .cells #[.string ⟨#[108, 101, 100, 103, 101, 114, 58, 32, 102, 101, 119, 101, 114, 32, 114, 105, 103, 104, 116, 115, 32, 116, 104, 97, 110, 32, 97, 114, 101, 32, 97, 115, 107, 101, 100, 32, 102, 111, 114]⟩] 173], #[], []⟩
  { w0 with heap := ((w0.heap.modify 0 fun
      | .cells _ t frozen => .cells #[.iface 149 (.pointer (some ⟨low, 0, none⟩))] t frozen
      | o => o).modify 1 fun
      | .cells _ t frozen => .cells #[.iface 149 (.pointer (some ⟨low + 1, 0, none⟩))] t frozen
      | o => o).modify 2 fun
      | .cells _ t frozen => .cells #[.iface 149 (.pointer (some ⟨low + 2, 0, none⟩))] t frozen
      | o => o }
end Go.Proofs.YtjmbhaoehfdpoaaDoor
namespace Go.Proofs.YtjmbhaoehfdpoaaDoor
open Go.ChangeShapes Go.WideShapes Go.ChangeAt Go.RowKit Go.WideMaps Go.WideElems Go.PlainAid
set_option linter.unusedVariables false
section
variable {H : Type} {enc : TypeId × Value → H} {W : World} {fuel : Nat} {cs : List Value} {x : DataW H × List MemPlace}
set_option maxRecDepth 100000
set_option maxHeartbeats 1600000
theorem t_go2 (h : DataW.trod enc Tryd.prog W 0 (fun _ => true) true fuel 38 cs = some x) (hw : ∀ n ∈ x.1.weights Tryd.prog 38, n ≤ reachBytes) :
    ∃ o : GO, cs = o.row ∧ o.ok2 := by
  obtain ⟨xs, mm, _, hx, hl, hxl, hf⟩ := DataW.trod_struct Tryd.underlying38 h
  have hxl' : xs.length = 5 := hxl
  rw [cells38] at hl
  obtain ⟨c0, l1, rfl, k1⟩ := uncons hl
  obtain ⟨c1, l2, rfl, k2⟩ := uncons k1
  obtain ⟨c2, l3, rfl, k3⟩ := uncons k2
  obtain ⟨c3, l4, rfl, k4⟩ := uncons k3
  obtain ⟨c4, l5, rfl, k5⟩ := uncons k4
  obtain ⟨c5, l6, rfl, k6⟩ := uncons k5
  obtain rfl := List.eq_nil_of_length_eq_zero k6
  have y0 : xs[0]? = some xs[0] := List.getElem?_eq_getElem (by omega)
  have h0 : DataW.trod enc Tryd.prog W 0 (fun _ => true) true mm 3 [c0] = some xs[0] := by
    have e : DataW.trod enc Tryd.prog W 0 (fun _ => true) true mm 3 (List.take (Tryd.prog.cellsOf 3) (List.drop 0 [c0, c1, c2, c3, c4, c5])) = xs[0]? := hf 0 _ rfl
    rw [cells3, y0] at e
    exact e
  obtain ⟨z0, e0, b0⟩ := t_int Tryd.underlying3 h0
  have y1 : xs[1]? = some xs[1] := List.getElem?_eq_getElem (by omega)
  have h1 : DataW.trod enc Tryd.prog W 0 (fun _ => true) true mm 3 [c1] = some xs[1] := by
    have e : DataW.trod enc Tryd.prog W 0 (fun _ => true) true mm 3 (List.take (Tryd.prog.cellsOf 3) (List.drop 1 [c0, c1, c2, c3, c4, c5])) = xs[1]? := hf 1 _ rfl
    rw [cells3, y1] at e
    exact e
  obtain ⟨z1, e1, b1⟩ := t_int Tryd.underlying3 h1
  have y2 : xs[2]? = some xs[2] := List.getElem?_eq_getElem (by omega)
  have h2 : DataW.trod enc Tryd.prog W 0 (fun _ => true) true mm 3 [c2] = some xs[2] := by
    have e : DataW.trod enc Tryd.prog W 0 (fun _ => true) true mm 3 (List.take (Tryd.prog.cellsOf 3) (List.drop 2 [c0, c1, c2, c3, c4, c5])) = xs[2]? := hf 2 _ rfl
    rw [cells3, y2] at e
    exact e
  obtain ⟨z2, e2, b2⟩ := t_int Tryd.underlying3 h2
  have y3 : xs[3]? = some xs[3] := List.getElem?_eq_getElem (by omega)
  have h3 : DataW.trod enc Tryd.prog W 0 (fun _ => true) true mm 9 [c3] = some xs[3] := by
    have e : DataW.trod enc Tryd.prog W 0 (fun _ => true) true mm 9 (List.take (Tryd.prog.cellsOf 9) (List.drop 3 [c0, c1, c2, c3, c4, c5])) = xs[3]? := hf 3 _ rfl
    rw [cells9, y3] at e
    exact e
  obtain ⟨s3, e3, b3⟩ := t_str Tryd.underlying9 h3 (w_part Tryd.underlying38 hx hw (i := 3) rfl y3)
  have y4 : xs[4]? = some xs[4] := List.getElem?_eq_getElem (by omega)
  have h4 : DataW.trod enc Tryd.prog W 0 (fun _ => true) true mm 36 [c4, c5] = some xs[4] := by
    have e : DataW.trod enc Tryd.prog W 0 (fun _ => true) true mm 36 (List.take (Tryd.prog.cellsOf 36) (List.drop 4 [c0, c1, c2, c3, c4, c5])) = xs[4]? := hf 4 _ rfl
    rw [cells36, y4] at e
    exact e
  obtain ⟨p4, q4, e4, b4, d4⟩ := t_two Tryd.underlying36 cells36 rfl rfl rfl rfl h4
  clear hf h hl
  cases e0; cases e1; cases e2; cases e3; cases e4
  exact ⟨⟨z0, z1, z2, s3, p4, q4⟩, rfl, ⟨b2, by show s3.length ≤ 140737488355328; omega, b4, d4⟩⟩
end
end Go.Proofs.YtjmbhaoehfdpoaaDoor
namespace Go.Proofs.YtjmbhaoehfdpoaaDoor.gossipGives
open Go.ChangeShapes Go.WideShapes Go.ChangeAt Go.RowKit Go.WideMaps Go.WideElems

set_option maxRecDepth 100000 in
set_option maxHeartbeats 1600000 in
theorem contract (H : Type) (enc : TypeId × Value → H) (W : World) (base : Nat) (args : Array Value) (ds gs : List (DataW H)) (before : List MemPlace)
    (hval : ∀ (j : Nat) t v, Tryd.f5.params[j]? = some t → args[j]? = some v → Value.okWide Tryd.prog W .any base t v)
    (hW : DataW.Whole enc Tryd.prog Tryd.f5.params.toList Rows.gossipGivesSpec.vars false W args.toList ds gs before) (hL : laidMetH Tryd.prog Rows.gossipGivesRow.laid W)
    (hsz : (DataW.weightsEach Tryd.prog (Tryd.f5.params.toList ++ (OpenSpec.ofChange Rows.gossipGivesSpec).bare.plain.varTypes Tryd.prog) (ds ++ gs)).all (· ≤ reachBytes) = true) :
    Calls Tryd.prog 5 args W fun e W' => ∃ v, e = .returned v ∧ Rows.gossipGivesSpec.post enc Tryd.prog Tryd.f5 false true false false W args v W' := by
  obtain ⟨S, hS⟩ := sen_of hL
  have hW' := hW
  obtain ⟨p, q, hA0, hV, rfl, hfz, hnd⟩ := hW
  have hA : DataW.TrodAll enc Tryd.prog W 0 (fun _ => true) true Tryd.f5.params.toList args.toList ds p := hA0
  rw [Tryd.params5] at hA hval
  obtain ⟨v0, vs0, d0, ds0, p0, q0, hargs, rfl, rfl, h0, r0⟩ := trodAll_cons hA
  obtain ⟨v1, vs1, d1, ds1, p1, q1, rfl, rfl, rfl, h1, r1⟩ := trodAll_cons r0
  obtain ⟨v2, vs2, d2, ds2, p2, q2, rfl, rfl, rfl, h2, r2⟩ := trodAll_cons r1
  obtain ⟨v3, vs3, d3, ds3, p3, q3, rfl, rfl, rfl, h3, r3⟩ := trodAll_cons r2
  obtain ⟨rfl, rfl, rfl⟩ := trodAll_nil r3
  obtain rfl : args = #[v0, v1, v2, v3] := by cases args; simp_all
  obtain ⟨rfl, rfl⟩ := trodVars_none hV
  clear hA0 r0 r1 r2 r3 hA
  have hlt3 : ∀ x ∈ p3, x.block < W.heap.size := fun x hx => hW'.lt x (by simp [hx])
  obtain ⟨z0, rfl, rfl, rfl, w0⟩ := open_int Tryd.underlying3 (hval 0 3 v0 rfl rfl) h0
  obtain ⟨z1, rfl, rfl, rfl, w1⟩ := open_int Tryd.underlying3 (hval 1 3 v1 rfl rfl) h1
  obtain ⟨z2, rfl, rfl, rfl, w2⟩ := open_int Tryd.underlying3 (hval 2 3 v2 rfl rfl) h2
  have hw3 : ∀ n ∈ d3.weights Tryd.prog 22, n ≤ reachBytes := fun n hn => by
    have := List.all_eq_true.1 hsz n (DataW.weights_mem_each (j := 3) (t := 22) (d := d3) (by rw [Tryd.params5]; rfl) rfl n hn)
    simpa using this
  obtain ⟨ao, N, cap, os, rfl, hl, hnc, hcm, hok, hnl, hat⟩ := open_rows 22 38 6 GO.row GO.ok2 Tryd.underlying22 cells38 (by decide) (fun _ => rfl) (fun _ _ _ h hw => t_go2 h hw) (hval 3 22 v3 rfl rfl) h3 hw3
  refine (gives_law z0 z1 z2 ao N cap os W hS (Nat.le_refl _) hl (by unfold maxLen at *; omega) (fun h => by obtain ⟨b, off, e, h2⟩ := hat h; exact ⟨b, off, e, fun j o ho => (h2 j o ho).go⟩) hok).mono fun e W' ⟨he, hbl⟩ => ?_
  subst he
  exact ⟨_, rfl, _, _, _, [], _, [], hW', trodAll_cons_mk (shut_bool Tryd.underlying4 _) trodAll_mk0, (trodAll_cons_mk (shut_int Tryd.underlying3 w0) (trodAll_cons_mk (shut_int Tryd.underlying3 w1) (trodAll_cons_mk (shut_int Tryd.underlying3 w2) (trodAll_cons_mk (Below.trod laidOut (by kernel_rfl) (of_decide_eq_true (by kernel_rfl)) h3 hbl hlt3) trodAll_mk0)))), rfl, hbl.frame _, fun h => by cases h⟩

theorem laid_met (os : Os) : laidMet Tryd.prog Rows.gossipGivesRow.laid ((laidWorld os).forCall (fun _ _ => 0) ⟨#[], #[.int .i64 0, .int .i64 0, .int .i64 0, .slice none 0 0], []⟩).memory :=
  laidMet_of_run' 8 (by kernel_rfl) (by kernel_rfl)
theorem reads (os : Os) {H : Type} (enc : TypeId × Value → H) : ∃ places, DataW.whole enc Tryd.prog ((laidWorld os).forCall (fun _ _ => 0) ⟨#[], #[.int .i64 0, .int .i64 0, .int .i64 0, .slice none 0 0], []⟩).memory Tryd.f5.params.toList Rows.gossipGivesSpec.vars false #[Value.int .i64 0, Value.int .i64 0, Value.int .i64 0, Value.slice none 0 0].toList 8 = some ([.lit (.int .i64 0), .lit (.int .i64 0), .lit (.int .i64 0), .nil], [], places) :=
  ⟨[], by kernel_rfl⟩

set_option maxRecDepth 100000 in
theorem lifted (os : Os) (started : os.Started) (H : Type) (enc : TypeId × Value → H) (F : Stop.Interp) :
    ReturnsInHanded {} Tryd.checked os 5 .any ((OpenSpec.ofChange Rows.gossipGivesSpec).preRow enc Tryd.prog Tryd.f5 Rows.gossipGivesRow.domain false Rows.gossipGivesRow.laid) (((OpenSpec.ofChange Rows.gossipGivesSpec).at F).post enc Tryd.prog Tryd.f5 false true false false) := by
  obtain ⟨places, hx⟩ := reads os enc
  refine returnsInHanded_of_row (C := Tryd.checked) (s := OpenSpec.ofChange Rows.gossipGivesSpec) ownKn started (by kernel_rfl) Tryd.func5
    (witness_row_at (enc := enc) (C := Tryd.checked) false (laidWorld os) #[.int .i64 0, .int .i64 0, .int .i64 0, .slice none 0 0] rfl (by kernel_rfl) (by kernel_rfl) (by kernel_rfl)
      (OpenSpec.preRow_of_cond 8 hx (by kernel_rfl) (fun k hk => by cases hk) (by kernel_rfl) (laid_met os))) ?_
  intro W base args ds gs before hval hW _ _ hsz hL _ _
  exact contract H enc W base args ds gs before hval hW hL hsz

theorem said : Rows.GossipGivesSaid :=
  OpenClaim.holds_of_cond 5 Tryd.f5 rfl rfl rfl rfl rfl rfl rfl ⟨rfl, rfl, rfl, rfl, rfl⟩ rfl rfl rfl rfl rfl (by kernel_rfl) Tryd.func5 (by kernel_rfl)
    (of_decide_eq_true (by kernel_rfl)) (by unfold Func.isWrapper; first | (rw [if_pos (by decide +kernel)]; kernel_rfl) | (rw [if_neg (by decide +kernel)]; exact ⟨rfl, rfl⟩))
    (fun os started H enc _ F => by rw [OpenClaim.pre_eq_preRow]; exact lifted os started H enc F)

theorem plain (f : FuncId) (fn : Func) (hf : Tryd.pinned.checked.prog.funcNamed "sluice/sluicelaw12.GossipGives" = some f) (hfn : Tryd.pinned.checked.prog.funcs[f]? = some fn) :
    true = Tryd.pinned.checked.prog.looks [] ∧ ∀ (j : Nat) t, fn.params[j]? = some t → Tryd.pinned.checked.prog.wantsStandIn t = false := by
  obtain rfl : f = 5 := Option.some.inj ((show Tryd.prog.funcNamed "sluice/sluicelaw12.GossipGives" = some 5 by kernel_rfl).symm.trans hf) |>.symm
  obtain rfl : fn = Tryd.f5 := (Option.some.inj (Tryd.func5.symm.trans hfn)).symm
  refine ⟨by kernel_rfl, fun j t ht => ?_⟩
  rw [Tryd.params5] at ht
  have hm : t = 3 ∨ t = 22 := by
    have := Array.mem_of_getElem? ht
    simp at this
    omega
  rcases hm with rfl | rfl
  · exact (show Tryd.prog.wantsStandIn 3 = false by kernel_rfl)
  · exact (show Tryd.prog.wantsStandIn 22 = false by kernel_rfl)
end Go.Proofs.YtjmbhaoehfdpoaaDoor.gossipGives

namespace Go.Proofs.YtjmbhaoehfdpoaaDoor
theorem gossipGives_card : Rows.GossipGivesCardSaid :=
  Claim7.holds_tied_plain_at .later [] _ _ _ _ gossipGives.said (fun _ h => by cases h) (by kernel_rfl) (fun _ h => by cases h) gossipGives_row_tie rfl ⟨rfl, rfl⟩ (by kernel_rfl) rfl gossipGives.plain (by kernel_rfl)
end Go.Proofs.YtjmbhaoehfdpoaaDoor
