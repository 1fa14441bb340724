import Derived.Test.YtadfmnlkfcigoaaPl
import Derived.Test.YtadfmnlkfcigoaaArgs
namespace Go.Proofs.Ytadfmnlkfcigoaa
open Go.RowKit Go.PlainAid
set_option linter.unusedVariables false
set_option linter.unusedSimpArgs false
theorem PBd.mono {s : PV} {q : Nat} (h : PBd s q) : PBd s (q + 1) := ⟨by have := h.op; omega, by have := h.rp; omega, by have := h.mrk; omega, by have := h.lc; omega⟩
def Apt (P : Program) : Prop := ∀ (a : PA) (s : PV) (w : World), PN a s w → Calls P 18 #[.pointer (some ⟨a.pb, 0, none⟩)] w fun e w' => e = .returned (.bool true) ∧ Chg (has (a.ents s)) w w'
def Alv (P : Program) : Prop := ∀ w, Calls P 8 #[] w fun e w' => e = .returned (.bool true) ∧ Below w.heap.size w w'
set_option maxRecDepth 100000 in
set_option maxHeartbeats 12800000 in
theorem holds_any (HAL : Alv Try.prog) (HAP : Apt Try.prog) (me rep ses room lo hi : Int)
    (ao : Option Addr) (N cap : Nat) (os : List OpC) (w : World) (hl : os.length = N) (hnc : N ≤ cap) (hcm : cap ≤ maxLen) (hok : ∀ o ∈ os, o.ok)
    (hat : 0 < N → ∃ b off, ao = some ⟨b, off, none⟩ ∧ ∀ i o, os[i]? = some o → RowAt w b (off + i * 5) o.row) :
    Calls Try.prog 19 #[.int .i64 me, .int .i64 rep, .int .i64 ses, .int .i64 room, .slice ao N cap, .int .i64 lo, .int .i64 hi] w fun e w' => e = .returned (.bool true) ∧ Below w.heap.size w w' := by
  unfold maxLen at hcm
  by_cases hN : 400 < N
  · go_enter Try.func19, Try.ntmps19
    go_wp2_with fail
    go_ret
    exact ⟨rfl, Below.refl _ _⟩
  have HAT : Hid (0 < N → ∃ b off, ao = some ⟨b, off, none⟩ ∧ ∀ i o, os[i]? = some o → RowAt w b (off + i * 5) o.row) := hat
  have HOK : Hid (∀ o ∈ os, o.ok) := hok
  have HL0 : Hid (os.length = N) := hl
  clear hat hok hl
  go_enter Try.func19, Try.ntmps19
  go_wp2_with fail
  refine Calls.mono (HAL w) ?_
  rintro e w1 ⟨rfl, hb1⟩
  have HB1 : Hid (Below w.heap.size w w1) := hb1
  clear hb1
  go_wp2_with fail
  by_cases hnew : newCode me rep ses room = 0
  · have HMD : Hid _ := made_yes me rep ses room w1 hnew
    clear hnew
    refine Calls.mono HMD.out ?_
    rintro e w2 ⟨a, rfl, haS, _, hrp, _, _, hPN, hb2⟩
    have HB2 : Hid (Below w.heap.size w w2) := show Below w.heap.size w w2 from HB1.out.trans (hb2.mono HB1.out.size)
    have HPN : Hid (PN a s0 w2) := hPN
    have HS0 : Hid (w.heap.size ≤ a.L) := show w.heap.size ≤ a.L from by rw [haS]; exact HB1.out.size
    clear hb2 hPN haS hrp HMD HB1
    go_wp2_with fail
    go_loopw [18, 19, 20] (fun s18 _ _ wr => ∃ k : Nat, k ≤ N ∧ s18 = .int .i64 k ∧ ∃ s, PN a s wr ∧ PBd s k ∧ Below w.heap.size w wr) (fun s18 _ _ _ => N - (intOf s18).toNat)
    case atStart => exact ⟨0, by omega, rfl, s0, HPN.out, bd0, HB2.out⟩
    case round =>
      obtain ⟨k, hk, rfl, s, hP, hBd, hBe⟩ := hrel
      clear HPN HB2
      have HP : Hid (PN a s wr) := hP
      have HBD : Hid (PBd s k) := hBd
      have HBE : Hid (Below w.heap.size w wr) := hBe
      clear hP hBd hBe
      by_cases hlt : k < N
      · have hkb : k < os.length := by have := HL0.out; omega
        obtain ⟨x, hx⟩ : ∃ x, x = os[k] := ⟨_, rfl⟩
        have hxo : x.ok := HOK.out x (by rw [hx]; exact List.getElem_mem _)
        obtain ⟨b, off, hao, hcell⟩ := HAT.out (by omega)
        subst hao
        have hrow := hcell k x (by rw [hx]; exact List.getElem?_eq_getElem hkb)
        have hR : RowAt wr b (off + k * 5) x.row := hrow.below HBE.out (hrow.lt (by simp [OpC.row]))
        have x0 : wr.cell? ⟨b, off + k * 5, none⟩ = some (.int .i64 x.k) := hR 0 _ rfl
        have x1 : wr.cell? ⟨b, off + k * 5 + 1, none⟩ = some (.int .i64 x.s) := hR 1 _ rfl
        have x2 : wr.cell? ⟨b, off + k * 5 + 2, none⟩ = some (.int .i64 x.i) := hR 2 _ rfl
        have x3 : wr.cell? ⟨b, off + k * 5 + 3, none⟩ = some (.int .i64 x.e) := hR 3 _ rfl
        have x4 : wr.cell? ⟨b, off + k * 5 + 4, none⟩ = some (.int .i64 x.v) := hR 4 _ rfl
        have HPL : Hid _ := plays_gen a s k x.k x.s x.i x.e x.v wr HP.out HBD.out (by omega) hxo.2.1 hxo.2.2.2.1
        obtain ⟨kd, hkd⟩ : ∃ kd, kd = x.k := ⟨_, rfl⟩
        rw [← hkd] at x0 HPL
        clear hrow hcell hkb hx hxo hR hkd
        have HSKIP : Hid (PBd s (k + 1)) := HBD.out.mono
        clear HBD
        by_cases hsk : 5 ≤ kd ∧ (kd < lo ∨ hi < kd)
        · obtain ⟨h5, hsk⟩ := hsk
          by_cases hlo : kd < lo
          · clear hsk
            go_wp2_with fail
            go_roundw
            case rel => exact ⟨k + 1, by omega, by go_num, s, HP.out, HSKIP.out, HBE.out⟩
            case measure => simp [intOf]; omega
          · have hhi : hi < kd := by omega
            clear hsk
            go_wp2_with fail
            go_roundw
            case rel => exact ⟨k + 1, by omega, by go_num, s, HP.out, HSKIP.out, HBE.out⟩
            case measure => simp [intOf]; omega
        · have HK : Hid (Below w.heap.size w wr) := HBE.out
          clear HSKIP
          by_cases h5 : 5 ≤ kd
          · have hlo : ¬ kd < lo := by omega
            have hhi : ¬ hi < kd := by omega
            clear hsk
            go_wp2_with fail
            refine Calls.mono HPL.out ?_
            rintro e w4 ⟨rfl, s', hP4, hS4, hB4, _⟩
            have HP4 : Hid (PN a s' w4) := hP4
            have HB4 : Hid (PBd s' (k + 1)) := hB4
            have HE4 : Hid (Below w.heap.size w w4) := show Below w.heap.size w w4 from HK.out.trans ((PStp.below HP.out hS4).mono HS0.out)
            clear hP4 hB4 hS4 HPL HP HK HBE x0 x1 x2 x3 x4
            go_wp2_with fail
            go_roundw
            case rel => exact ⟨k + 1, by omega, by go_num, s', HP4.out, HB4.out, HE4.out⟩
            case measure => simp [intOf]; omega
          · clear hsk
            go_wp2_with fail
            refine Calls.mono HPL.out ?_
            rintro e w4 ⟨rfl, s', hP4, hS4, hB4, _⟩
            have HP4 : Hid (PN a s' w4) := hP4
            have HB4 : Hid (PBd s' (k + 1)) := hB4
            have HE4 : Hid (Below w.heap.size w w4) := show Below w.heap.size w w4 from HK.out.trans ((PStp.below HP.out hS4).mono HS0.out)
            clear hP4 hB4 hS4 HPL HP HK HBE x0 x1 x2 x3 x4
            go_wp2_with fail
            go_roundw
            case rel => exact ⟨k + 1, by omega, by go_num, s', HP4.out, HB4.out, HE4.out⟩
            case measure => simp [intOf]; omega
      · obtain ⟨wE, hwE⟩ : ∃ wE, wE = wr := ⟨_, rfl⟩
        subst hwE
        go_wp2_with fail
        refine Calls.mono (HAP a s _ HP.out) ?_
        rintro e w5 ⟨rfl, hc5⟩
        have HC5 : Hid _ := hc5
        clear hc5
        go_wp2_with fail
        go_ret
        exact ⟨rfl, HBE.out.trans ((PStp.below HP.out (s' := s) ⟨HC5.out, fun _ h => Or.inl h⟩).mono HS0.out)⟩
  · have HMD : Hid _ := made_no me rep ses room w1 hnew
    clear hnew
    refine Calls.mono HMD.out ?_
    rintro e w2 ⟨rfl, hw2⟩
    replace hw2 := hw2.symm
    subst hw2
    clear HMD
    go_wp2_with fail
    go_loopw [18, 19, 20] (fun s18 _ _ wr => s18 = .int .i64 0 ∧ wr = w1) (fun _ _ _ _ => 0)
    case atStart => exact ⟨rfl, rfl⟩
    case round =>
      obtain ⟨rfl, rfl⟩ := hrel
      by_cases h0 : 0 < N
      · go_wp2_with fail
        go_ret
        exact ⟨rfl, HB1.out⟩
      · go_wp2_with fail
        go_ret
        exact ⟨rfl, HB1.out⟩
end Go.Proofs.Ytadfmnlkfcigoaa
