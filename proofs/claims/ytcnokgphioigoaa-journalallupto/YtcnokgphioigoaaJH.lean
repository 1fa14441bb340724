import Derived.Test.YtcnokgphioigoaaJG
import Derived.Deep.LoopGhost
namespace Go.Proofs.Ytcnokgphioigoaa
open Go.RowKit Go.PlainAid
set_option linter.unusedVariables false
set_option linter.unusedSimpArgs false
set_option maxRecDepth 100000
set_option maxHeartbeats 6400000
theorem slice38lo (g len cap lo hi : Nat) (h1 : lo ≤ hi) (h2 : hi ≤ cap) (h3 : lo < cap) (w : World) : (Instr.sliceAt 38 (.slice (some ⟨g, 0, none⟩) len cap) (some (.int .i64 (lo : Int))) (some (.int .i64 (hi : Int))) none).run Try.prog w = .ok (.slice (some ⟨g, lo, none⟩) (hi - lo) (cap - lo)) w := by
  rw [slice_lh _ _ _ _ _ h1 h2]
  have h4 : ¬ cap = lo := by omega
  simp [sliced, h4, Addr.add]
  try (intro h; omega)
theorem by_mid {w : World} {g n c lo : Nat} {bs : List UInt8} (hb : By w (.slice (some ⟨g, 0, none⟩) n c) bs) (h1 : lo + 496 ≤ n) (cc : Nat) : By w (.slice (some ⟨g, lo, none⟩) 496 cc) ((bs.drop lo).take 496) := by
  obtain ⟨_, _, _, e, hl, _, hc⟩ := hb
  cases e
  refine ⟨_, _, _, rfl, by rw [List.length_take, List.length_drop]; omega, (fun e => by cases e), fun ad e j u hu => ?_⟩
  cases e
  rw [List.getElem?_map, List.getElem?_take] at hu
  split at hu
  · rw [List.getElem?_drop] at hu
    have := hc _ rfl (lo + j) u (by rw [List.getElem?_map]; exact hu)
    rw [addr_add] at this ⊢
    rw [Nat.zero_add] at this
    exact this
  · cases hu
/-- The row that grows. -/
def SRel (L : Nat) (w : World) (b : Nat → UInt8) (next i : Nat) (v : Value) (wr : World) : Prop := (∃ ao c, v = .slice ao (i * 496) c) ∧ wr.ownsRow L 5 1 v (i * 496) ((recB b next (i * 496)).map B) ∧ Below L w wr
theorem srel_next {L : Nat} {w wr : World} {b : Nat → UInt8} {next i : Nat} {ao : Option Addr} {c g lo cc : Nat} (h : SRel L w b next i (.slice ao (i * 496) c) wr) (hL : L ≤ wr.heap.size) (hi : i ≤ 17) (hb : By wr (.slice (some ⟨g, lo, none⟩) 496 cc) (((secL b (next + i)).drop 8).take 496)) :
    ∃ v' w', (∀ ty, (Builtin.append_ #[38, 38] ty #[.slice ao (i * 496) c, .slice (some ⟨g, lo, none⟩) 496 cc]).run Try.prog wr = .ok v' w') ∧ SRel L w b next (i + 1) v' w' := by
  obtain ⟨_, h2, h3⟩ := h
  obtain ⟨_, _, _, e, hl, hn, hc⟩ := hb
  cases e
  obtain ⟨v', w', hr, ho, hg⟩ := app_rows (w := wr) 38 5 (.int .u8 0) 1 1 Try.underlying38 info5' rfl (by decide) (by decide) h2 (ao := some ⟨g, lo, none⟩) (m := 496) (cap := cc) (ys := (((secL b (next + i)).drop 8).take 496).map B) (by rw [List.length_map, hl]) hn hc (oneB _) (by omega) hL
  have e1 : i * 496 + 496 = (i + 1) * 496 := by omega
  rw [e1, ← List.map_append, ← recB_more] at ho
  obtain ⟨ao', c', e2, _⟩ := own_slice ho
  exact ⟨v', w', hr, ⟨⟨ao', c', e2⟩, ho, h3.trans (hg.below (fun q hq => (ownsRow_lt h2 hq).1) hL)⟩⟩
theorem stands_m {x : DV} {g c next num m : Nat} (w : World) (hI : By w (.slice (some ⟨g, 0, none⟩) (x.n * 512) c) (imgL x)) (hcap : x.n * 512 ≤ c) (hn : next < x.n) (hxn : x.n ≤ 1000) (hnum : num ≤ 100000) (hlen : lenIn (secL x.b next) ≤ 8192) (hroom : next + kS (lenIn (secL x.b next)) ≤ x.n) (hm : m ≤ kS (lenIn (secL x.b next))) (hgood : ∀ p, p < m → goodP x.b x.n next num (lenIn (secL x.b next)) p) (hbad : m < kS (lenIn (secL x.b next)) → ¬ goodP x.b x.n next num (lenIn (secL x.b next)) m) :
    Calls Try.prog 64 #[.slice (some ⟨g, 0, none⟩) (x.n * 512) c, .int .i64 (next : Int), .int .i64 (num : Int)] w (StPost w (m = kS (lenIn (secL x.b next))) (recB x.b next (lenIn (secL x.b next)))) := by
  have HLD : Hid ((secL x.b next).getD 5 0 = x.b (next * 512 + 5) ∧ (secL x.b next).getD 6 0 = x.b (next * 512 + 6)) := ⟨secL_getD _ _ _ (by omega), secL_getD _ _ _ (by omega)⟩
  obtain ⟨len, hle⟩ : ∃ len, len = lenIn (secL x.b next) := ⟨_, rfl⟩
  rw [← hle] at hlen hroom hm hgood hbad ⊢
  have hll : (len : Int) = ((x.b (next * 512 + 5)).toNat : Int) + 256 * ((x.b (next * 512 + 6)).toNat : Int) := by
    rw [hle]; unfold lenIn; rw [HLD.out.1, HLD.out.2]; omega
  have hk2 := kS_le len hlen
  have hkp := kS_pos len
  obtain ⟨k, hk⟩ : ∃ k, k = kS len := ⟨_, rfl⟩
  rw [← hk] at hroom hm hbad hk2 hkp ⊢
  have hcell : ∀ j, j < 512 * x.n → w.cell? ⟨g, j, none⟩ = some (.int .u8 ((x.b j).toNat : Int)) := fun j hj => by
    obtain ⟨_, _, _, e, hl, _, hc⟩ := hI
    cases e
    have := hc _ rfl j (B (x.b j)) (by rw [List.getElem?_map, imgL_get _ _ hj]; rfl)
    rw [addr_add, Nat.zero_add] at this
    exact this
  have d5 := hcell (next * 512 + 5) (by omega)
  have d6 := hcell (next * 512 + 6) (by omega)
  have h5 := (x.b (next * 512 + 5)).toNat_lt
  have h6 := (x.b (next * 512 + 6)).toNat_lt
  obtain ⟨a5, ha5⟩ : ∃ a : Nat, a = (x.b (next * 512 + 5)).toNat := ⟨_, rfl⟩
  obtain ⟨a6, ha6⟩ : ∃ a : Nat, a = (x.b (next * 512 + 6)).toNat := ⟨_, rfl⟩
  rw [← ha5] at d5 h5 hll
  rw [← ha6] at d6 h6 hll
  have HLL : Hid ((a5 : Int) + 256 * (a6 : Int) = (len : Int)) := hll.symm
  have HI : Hid (∀ X, Below w.heap.size w X → By X (.slice (some ⟨g, 0, none⟩) (x.n * 512) c) (imgL x)) := fun X hX => hI.keep hX
  have HK : Hid (∀ X : World, Calls Try.prog 59 #[.int .i64 (len : Int)] X fun e w' => e = .returned (.int .i64 (k : Int)) ∧ w' = X) := fun X => by rw [hk]; exact count_any len X (by omega)
  have HMK : Hid (∀ (X : World) (i : Nat), i ≤ 17 → Calls Try.prog 70 #[.int .i64 (num : Int), .int .i64 (i : Int), .int .i64 (len : Int)] X fun e w' => ∃ h, e = .returned (.slice (some ⟨h, 0, none⟩) 8 8) ∧ w'.ownsRow X.heap.size 5 1 (.slice (some ⟨h, 0, none⟩) 8 8) 8 ((markL num i len).map B) ∧ Below X.heap.size X w') := fun X i hi => rmark_any num i len X (by omega) (by omega) hlen
  have HAL : Hid (∀ (X : World) (h i : Nat) (z : Int), next + i < x.n → Below w.heap.size w X → By X (.slice (some ⟨h, 0, none⟩) 8 8) (markL num i len) → (z = (((next + i) * 512 : Nat) : Int) → Calls Try.prog 71 #[.slice (some ⟨g, 0, none⟩) (x.n * 512) c, .int .i64 z, .slice (some ⟨h, 0, none⟩) 8 8] X fun e w' => e = .returned (.bool ((secL x.b (next + i)).take 8 == markL num i len)) ∧ ∃ q, w' = X.drewN q) ∧ (z = (((next + i) * 512 + 504 : Nat) : Int) → Calls Try.prog 71 #[.slice (some ⟨g, 0, none⟩) (x.n * 512) c, .int .i64 z, .slice (some ⟨h, 0, none⟩) 8 8] X fun e w' => e = .returned (.bool ((secL x.b (next + i)).drop 504 == markL num i len)) ∧ ∃ q, w' = X.drewN q)) := fun X h i z hi hX hM => by
    constructor
    · intro hz
      subst hz
      have h9 := alike_any (at' := (next + i) * 512) X (HI.out X hX) hM (by omega) (by omega)
      rw [(imgL_sec x (next + i) hi).1] at h9
      exact h9
    · intro hz
      subst hz
      have h9 := alike_any (at' := (next + i) * 512 + 504) X (HI.out X hX) hM (by omega) (by omega)
      rw [(imgL_sec x (next + i) hi).2] at h9
      exact h9
  have HSL : Hid (∀ (i : Nat) (W : World), next + i < x.n → (Instr.sliceAt 38 (.slice (some ⟨g, 0, none⟩) (x.n * 512) c) (some (.int .i64 (((next + i) * 512 + 8 : Nat) : Int))) (some (.int .i64 (((next + i) * 512 + 504 : Nat) : Int))) none).run Try.prog W = .ok (.slice (some ⟨g, (next + i) * 512 + 8, none⟩) 496 (c - ((next + i) * 512 + 8))) W) := fun i W hi => by
    have h9 := slice38lo g (x.n * 512) c ((next + i) * 512 + 8) ((next + i) * 512 + 504) (by omega) (by omega) (by omega) W
    rw [show (next + i) * 512 + 504 - ((next + i) * 512 + 8) = 496 by omega] at h9
    exact h9
  have HBM : Hid (∀ (X : World) (i cc : Nat), next + i < x.n → Below w.heap.size w X → By X (.slice (some ⟨g, (next + i) * 512 + 8, none⟩) 496 cc) (((secL x.b (next + i)).drop 8).take 496)) := fun X i cc hi hX => by
    have h9 := by_mid (lo := (next + i) * 512 + 8) (HI.out X hX) (by omega) cc
    rw [img_body x (next + i) hi] at h9
    exact h9
  have HKK : Hid (k = kS len) := hk
  have hq : Int.tdiv ((x.n * 512 : Nat) : Int) 512 = (x.n : Int) := by rw [Int.tdiv_eq_ediv_of_nonneg (by omega)]; omega
  have hq2 : ¬ ((x.n : Int) - (next : Int) < 1) := by omega
  have hk9 : ¬ ((x.n : Int) - (next : Int) < (k : Int)) := by omega
  have hl9 : ¬ ((8192 : Int) < (len : Int)) := by omega
  have HGD : Hid ((∀ p, p < m → goodP x.b x.n next num len p) ∧ (m < k → ¬ goodP x.b x.n next num len m)) := ⟨hgood, hbad⟩
  have HNB : Hid (next + k ≤ x.n ∧ x.n ≤ 1000 ∧ len ≤ 8192) := ⟨hroom, hxn, hlen⟩
  have hnx : next ≤ 1000 := by omega
  have HW0 : Hid (∀ q, Below w.heap.size w (w.drewN q)) := fun q => below_dr (Below.refl _ _) q
  clear hI hcell hgood hbad hle hk hll ha5 ha6 hroom
  go_enter Try.func64, Try.ntmps64
  go_wp2_with fail
  go_cut [9] from 14 to 44 (fun s9 wy => s9 = .int .i64 (len : Int) ∧ ∃ q, wy = w.drewN q)
  case first =>
    go_quiet (fail)
    go_wp2_with fail
    go_meet
    case rel => exact ⟨by rw [← HLL.out], nq, rfl⟩
  case rest =>
  obtain ⟨rfl, q, hq0⟩ := hcut
  have HB0 : Hid (Below w.heap.size w wc) := by rw [hq0]; exact HW0.out q
  clear hq0 d5 d6 HW0
  go_wp2_with fail
  refine Calls.mono (HK.out _) ?_
  rintro e wo ⟨rfl, hwo⟩
  replace hwo := hwo.symm
  subst hwo
  go_wp2_with fail
  go_loopw [10, 11] (fun s10 s11 wr => ∃ i : Nat, i ≤ m ∧ s11 = .int .i64 (i : Int) ∧ SRel w.heap.size w x.b next i s10 wr) (fun _ s11 _ => m + 1 - (intOf s11).toNat)
  case atStart => exact ⟨0, Nat.zero_le _, rfl, ⟨none, 0, by rw [Nat.zero_mul]⟩, by rw [Nat.zero_mul]; exact World.ownsRow_nil _ _ _ _, HB0.out⟩
  case round =>
    clear HB0
    obtain ⟨i, hi, rfl, hS⟩ := hrel
    obtain ⟨ao, cc, rfl⟩ := hS.1
    have HS : Hid (SRel w.heap.size w x.b next i (.slice ao (i * 496) cc) wr) := hS
    have HIM : Hid (i ≤ m ∧ m ≤ k) := ⟨hi, hm⟩
    clear hS
    go_wp2_with fail
    refine Calls.mono (HK.out _) ?_
    rintro e wo ⟨rfl, hwo⟩
    replace hwo := hwo.symm
    subst hwo
    by_cases hik : i < k
    · have hiki : (i : Int) < (k : Int) := by omega
      have hi17 : i ≤ 17 := by omega
      have hin : next + i < x.n := by have := HNB.out.1; omega
      have HIN : Hid (next + i < x.n) := hin
      clear hin
      go_wp2_with fail
      refine Calls.mono (HMK.out _ i hi17) ?_
      rintro e w1 ⟨h, rfl, hmr, hb1⟩
      have hb1' : Below w.heap.size w w1 := HS.out.2.2.trans (hb1.mono HS.out.2.2.size)
      have hby : By w1 (.slice (some ⟨h, 0, none⟩) 8 8) (markL num i len) := own_by (v := .slice (some ⟨h, 0, none⟩) 8 8) (s := markL num i len) hmr
      have HS1 : Hid (SRel w.heap.size w x.b next i (.slice ao (i * 496) cc) w1) := ⟨HS.out.1, ownsRow_same HS.out.2.1 (fun q hq => hb1.block q (ownsRow_lt HS.out.2.1 hq).2), hb1'⟩
      have HBY : Hid (By w1 (.slice (some ⟨h, 0, none⟩) 8 8) (markL num i len)) := hby
      have HA1 : Hid _ := (HAL.out w1 h i (((next : Int) + (i : Int)) * 512) HIN.out hb1' hby).1 (by push_cast; rfl)
      have HBI : Hid ((i < m → ((secL x.b (next + i)).take 8 == markL num i len) = true ∧ ((secL x.b (next + i)).drop 504 == markL num i len) = true) ∧ (i = m → (((secL x.b (next + i)).take 8 == markL num i len) && ((secL x.b (next + i)).drop 504 == markL num i len)) = false)) := by
        refine ⟨fun h => ?_, fun h => ?_⟩
        · have h2 := (HGD.out.1 i h).2
          unfold bearsB at h2
          exact Bool.and_eq_true_iff.1 h2
        · have h2 := HGD.out.2 (by omega)
          rw [← h] at h2
          cases hbe : (((secL x.b (next + i)).take 8 == markL num i len) && ((secL x.b (next + i)).drop 504 == markL num i len)) with
          | false => rfl
          | true => exact absurd ⟨HIN.out, hbe⟩ h2
      have HA2 : Hid (∀ X (z : Int), (∃ q, X = w1.drewN q) → z = (((next + i) * 512 + 504 : Nat) : Int) → Calls Try.prog 71 #[.slice (some ⟨g, 0, none⟩) (x.n * 512) c, .int .i64 z, .slice (some ⟨h, 0, none⟩) 8 8] X fun e w' => e = .returned (.bool ((secL x.b (next + i)).drop 504 == markL num i len)) ∧ ∃ q, w' = X.drewN q) := fun X z hX hz => by
        obtain ⟨q, rfl⟩ := hX
        exact (HAL.out (w1.drewN q) h i z HIN.out (below_dr hb1' q) (HBY.out.keep (below_dr (Below.refl _ _) q))).2 hz
      generalize ((secL x.b (next + i)).take 8 == markL num i len) = b1 at HA1 HBI
      generalize ((secL x.b (next + i)).drop 504 == markL num i len) = b2 at HA2 HBI
      clear hmr hb1 hb1' hby HS
      go_wp2_with fail
      refine Calls.mono HA1.out ?_
      rintro e w2 ⟨rfl, q2, hw2⟩
      have HA3 : Hid _ := fun z => HA2.out w2 z ⟨q2, hw2⟩
      have HS2 : Hid (SRel w.heap.size w x.b next i (.slice ao (i * 496) cc) w2) := by rw [hw2]; exact ⟨HS1.out.1, ownsRow_same HS1.out.2.1 (fun _ _ => rfl), below_dr HS1.out.2.2 q2⟩
      clear hw2 HA1 HA2 HS1
      by_cases him : i < m
      · obtain ⟨hb1, hb2⟩ := HBI.out.1 him
        subst hb1
        subst hb2
        go_wp2_with fail
        refine Calls.mono (HA3.out _ (by push_cast; omega)) ?_
        rintro e w3 ⟨rfl, q3, hw3⟩
        have hS3 : SRel w.heap.size w x.b next i (.slice ao (i * 496) cc) w3 := by rw [hw3]; exact ⟨HS2.out.1, ownsRow_same HS2.out.2.1 (fun _ _ => rfl), below_dr HS2.out.2.2 q3⟩
        obtain ⟨v', w4, hr4, hS4⟩ := srel_next hS3 hS3.2.2.size hi17 (HBM.out w3 i (c - ((next + i) * 512 + 8)) HIN.out hS3.2.2)
        have HR4 : Hid (∀ ty, (Builtin.append_ #[38, 38] ty #[.slice ao (i * 496) cc, .slice (some ⟨g, (next + i) * 512 + 8, none⟩) 496 (c - ((next + i) * 512 + 8))]).run Try.prog w3 = .ok v' w4) := hr4
        have HN : Hid (SRel w.heap.size w x.b next (i + 1) v' w4) := hS4
        obtain ⟨ao', c', hv'⟩ := hS4.1
        have hsl := fun W => HSL.out i W HIN.out
        have e1 : ((((next + i) * 512 + 8 : Nat) : Int)) = ((next : Int) + (i : Int)) * 512 + 8 := by push_cast; rfl
        have e2 : ((((next + i) * 512 + 504 : Nat) : Int)) = ((next : Int) + (i : Int)) * 512 + 512 - 8 := by push_cast; omega
        rw [e1, e2] at hsl
        subst hv'
        clear hw3 hS3 hr4 hS4 HA3 HS2 e1 e2
        go_wp2_with (at_builtin; refine wpList_runs rfl _ _ 38 rfl rfl rfl HR4.out ?_)
        go_roundw
        case rel => exact ⟨i + 1, by omega, by go_num, HN.out⟩
        case measure => simp [intOf]; omega
      · have him2 : Hid (i = m) := show i = m from by omega
        have hbb := HBI.out.2 him2.out
        have HF2 : Hid (Below w.heap.size w w2) := HS2.out.2.2
        clear HS2
        cases b1 with
        | false =>
          clear HA3
          go_wp2_with fail
          go_ret2
          unfold StPost
          exact ⟨fun h => by have := HIM.out; have := him2.out; omega, fun _ => rfl, HF2.out⟩
        | true =>
          have hb2 : b2 = false := by simpa using hbb
          subst hb2
          go_wp2_with fail
          refine Calls.mono (HA3.out _ (by push_cast; omega)) ?_
          rintro e w3 ⟨rfl, q3, hw3⟩
          have HF3 : Hid (Below w.heap.size w w3) := by rw [hw3]; exact below_dr HF2.out q3
          clear hw3 HA3
          go_wp2_with fail
          go_ret2
          unfold StPost
          exact ⟨fun h => by have := HIM.out; have := him2.out; omega, fun _ => rfl, HF3.out⟩
    · have hik2 : Hid (i = k) := show i = k from by omega
      have hiki : ¬ ((i : Int) < (k : Int)) := by omega
      have hlc : len ≤ i * 496 := by have := HKK.out; have := hik2.out; unfold kS at *; omega
      obtain ⟨gg, hao, hgg⟩ : ∃ gg, ao = some ⟨gg, 0, none⟩ ∧ i * 496 ≤ cc := by
        have h3 := HS.out.2.1
        obtain ⟨ao2, cc2, e1, e2⟩ := own_slice h3
        cases e1
        rcases id h3.2 with ⟨e3, e4⟩ | ⟨g2, c2, cur, e3, _⟩
        · have := hik2.out; omega
        · cases e3; exact ⟨g2, rfl, e2⟩
      subst hao
      have hsl := fun W => slice38hm gg (i * 496) cc len (by omega) W
      have HF : Hid (w.heap.size ≤ gg ∧ gg < wr.heap.size ∧ By wr (.slice (some ⟨gg, 0, none⟩) len len) (recB x.b next len) ∧ Below w.heap.size w wr) := by
        have h3 := ownsRow_lt HS.out.2.1 (g := gg) rfl
        refine ⟨h3.1, h3.2, ?_, HS.out.2.2⟩
        refine ⟨_, _, _, rfl, recB_len _ _ _, (fun e => by cases e), fun ad e j u hu => ?_⟩
        cases e
        refine HS.out.2.1.cells (g := gg) rfl j u ?_
        rw [← recB_take x.b next len (i * 496) hlc, List.getElem?_map, List.getElem?_take] at hu
        split at hu
        · rw [List.getElem?_map]; exact hu
        · cases hu
      clear HS
      go_wp2_with fail
      go_ret2
      unfold StPost
      rw [recB_len]
      exact ⟨fun _ => ⟨gg, rfl, HF.out.1, HF.out.2.1, HF.out.2.2.1⟩, fun h => absurd (by have := HIM.out; have := hik2.out; omega) h, HF.out.2.2.2⟩
end Go.Proofs.Ytcnokgphioigoaa
namespace Go.Proofs.Ytcnokgphioigoaa
open Go.RowKit Go.PlainAid
set_option linter.unusedVariables false
set_option linter.unusedSimpArgs false
set_option maxRecDepth 100000
set_option maxHeartbeats 3200000
theorem stands_short {x : DV} {g c next num : Nat} (w : World) (hI : By w (.slice (some ⟨g, 0, none⟩) (x.n * 512) c) (imgL x)) (hn : next < x.n) (hxn : x.n ≤ 1000) (hbad : 8192 < lenIn (secL x.b next) ∨ (lenIn (secL x.b next) ≤ 8192 ∧ x.n < next + kS (lenIn (secL x.b next)))) :
    Calls Try.prog 64 #[.slice (some ⟨g, 0, none⟩) (x.n * 512) c, .int .i64 (next : Int), .int .i64 (num : Int)] w fun e w' => e = .returned (.tuple #[.slice none 0 0, .bool false]) ∧ Below w.heap.size w w' := by
  have HLD : Hid ((secL x.b next).getD 5 0 = x.b (next * 512 + 5) ∧ (secL x.b next).getD 6 0 = x.b (next * 512 + 6)) := ⟨secL_getD _ _ _ (by omega), secL_getD _ _ _ (by omega)⟩
  obtain ⟨len, hle⟩ : ∃ len, len = lenIn (secL x.b next) := ⟨_, rfl⟩
  rw [← hle] at hbad
  have hll : (len : Int) = ((x.b (next * 512 + 5)).toNat : Int) + 256 * ((x.b (next * 512 + 6)).toNat : Int) := by
    rw [hle]; unfold lenIn; rw [HLD.out.1, HLD.out.2]; omega
  obtain ⟨k, hk⟩ : ∃ k, k = kS len := ⟨_, rfl⟩
  rw [← hk] at hbad
  have hcell : ∀ j, j < 512 * x.n → w.cell? ⟨g, j, none⟩ = some (.int .u8 ((x.b j).toNat : Int)) := fun j hj => by
    obtain ⟨_, _, _, e, hl, _, hc⟩ := hI
    cases e
    have := hc _ rfl j (B (x.b j)) (by rw [List.getElem?_map, imgL_get _ _ hj]; rfl)
    rw [addr_add, Nat.zero_add] at this
    exact this
  have d5 := hcell (next * 512 + 5) (by omega)
  have d6 := hcell (next * 512 + 6) (by omega)
  have h5 := (x.b (next * 512 + 5)).toNat_lt
  have h6 := (x.b (next * 512 + 6)).toNat_lt
  obtain ⟨a5, ha5⟩ : ∃ a : Nat, a = (x.b (next * 512 + 5)).toNat := ⟨_, rfl⟩
  obtain ⟨a6, ha6⟩ : ∃ a : Nat, a = (x.b (next * 512 + 6)).toNat := ⟨_, rfl⟩
  rw [← ha5] at d5 h5 hll
  rw [← ha6] at d6 h6 hll
  have hlb : len ≤ 65535 := by omega
  have HLL : Hid ((a5 : Int) + 256 * (a6 : Int) = (len : Int)) := hll.symm
  have HK : Hid (∀ X : World, Calls Try.prog 59 #[.int .i64 (len : Int)] X fun e w' => e = .returned (.int .i64 (k : Int)) ∧ w' = X) := fun X => by rw [hk]; exact count_any len X (by omega)
  have hq : Int.tdiv ((x.n * 512 : Nat) : Int) 512 = (x.n : Int) := by rw [Int.tdiv_eq_ediv_of_nonneg (by omega)]; omega
  have hq2 : ¬ ((x.n : Int) - (next : Int) < 1) := by omega
  have hnx : next ≤ 1000 := by omega
  have HW0 : Hid (∀ q, Below w.heap.size w (w.drewN q)) := fun q => below_dr (Below.refl _ _) q
  clear hI hcell hle hk hll ha5 ha6
  go_enter Try.func64, Try.ntmps64
  go_wp2_with fail
  go_cut [9] from 14 to 44 (fun s9 wy => s9 = .int .i64 (len : Int) ∧ ∃ q, wy = w.drewN q)
  case first =>
    go_quiet (fail)
    go_wp2_with fail
    go_meet
    case rel => exact ⟨by rw [← HLL.out], nq, rfl⟩
  case rest =>
  obtain ⟨rfl, q, hq0⟩ := hcut
  have HB0 : Hid (Below w.heap.size w wc) := by rw [hq0]; exact HW0.out q
  clear hq0 d5 d6 HW0
  rcases hbad with h8 | ⟨h8, h9⟩
  · have hl9 : (8192 : Int) < (len : Int) := by omega
    go_wp2_with fail
    go_ret2
    exact ⟨rfl, HB0.out⟩
  · have hl9 : ¬ ((8192 : Int) < (len : Int)) := by omega
    have hk9 : (x.n : Int) - (next : Int) < (k : Int) := by omega
    go_wp2_with fail
    refine Calls.mono (HK.out _) ?_
    rintro e wo ⟨rfl, hwo⟩
    replace hwo := hwo.symm
    subst hwo
    go_wp2_with fail
    go_ret2
    exact ⟨rfl, HB0.out⟩
theorem stands_yes {x : DV} {g c next num : Nat} (w : World) (hI : By w (.slice (some ⟨g, 0, none⟩) (x.n * 512) c) (imgL x)) (hcap : x.n * 512 ≤ c) (hxn : x.n ≤ 1000) (hnum : num ≤ 100000) (hok : RecOk x.b x.n next num) :
    Calls Try.prog 64 #[.slice (some ⟨g, 0, none⟩) (x.n * 512) c, .int .i64 (next : Int), .int .i64 (num : Int)] w fun e w' => ∃ h, e = .returned (.tuple #[.slice (some ⟨h, 0, none⟩) (recB x.b next (lenIn (secL x.b next))).length (recB x.b next (lenIn (secL x.b next))).length, .bool true]) ∧ w.heap.size ≤ h ∧ h < w'.heap.size ∧ By w' (.slice (some ⟨h, 0, none⟩) (recB x.b next (lenIn (secL x.b next))).length (recB x.b next (lenIn (secL x.b next))).length) (recB x.b next (lenIn (secL x.b next))) ∧ Below w.heap.size w w' := by
  refine (stands_m (m := kS (lenIn (secL x.b next))) w hI hcap hok.1 hxn hnum hok.2.1 hok.fit.1 (Nat.le_refl _) hok.2.2 (fun h => absurd h (Nat.lt_irrefl _))).mono ?_
  rintro e w' ⟨h1, _, h3⟩
  obtain ⟨h, e1, e2, e3, e4⟩ := h1 rfl
  exact ⟨h, e1, e2, e3, e4, h3⟩
theorem stands_no {x : DV} {g c next num : Nat} (w : World) (hI : By w (.slice (some ⟨g, 0, none⟩) (x.n * 512) c) (imgL x)) (hcap : x.n * 512 ≤ c) (hxn : x.n ≤ 1000) (hnum : num ≤ 100000) (hb : next ≤ 100000) (hok : ¬ RecOk x.b x.n next num) :
    Calls Try.prog 64 #[.slice (some ⟨g, 0, none⟩) (x.n * 512) c, .int .i64 (next : Int), .int .i64 (num : Int)] w fun e w' => e = .returned (.tuple #[.slice none 0 0, .bool false]) ∧ Below w.heap.size w w' := by
  by_cases h1 : next < x.n
  · by_cases h2 : lenIn (secL x.b next) ≤ 8192
    · by_cases h4 : next + kS (lenIn (secL x.b next)) ≤ x.n
      · obtain ⟨m, k1, k2, k3⟩ := first_bad (goodP x.b x.n next num (lenIn (secL x.b next))) (kS (lenIn (secL x.b next)))
        have hmk : m ≠ kS (lenIn (secL x.b next)) := fun e => hok ⟨h1, h2, fun p hp => k2 p (by omega)⟩
        refine (stands_m (m := m) w hI hcap h1 hxn hnum h2 h4 k1 k2 k3).mono ?_
        rintro e w' ⟨_, h5, h6⟩
        exact ⟨h5 hmk, h6⟩
      · exact stands_short w hI h1 hxn (Or.inr ⟨h2, by omega⟩)
    · exact stands_short w hI h1 hxn (Or.inl (by omega))
  · exact stands_far w (by omega) hb (by omega)
end Go.Proofs.Ytcnokgphioigoaa
namespace Go.Proofs.Ytcnokgphioigoaa
open Go.RowKit Go.PlainAid
set_option linter.unusedVariables false
set_option linter.unusedSimpArgs false
set_option maxRecDepth 100000
set_option maxHeartbeats 3200000
theorem full_ex (b : Nat → UInt8) (n : Nat) : ∃ k, k ≤ n ∧ Full b n k := by
  obtain ⟨m, h1, h2, h3⟩ := first_bad (fun j => RecOk b n (itR b j).2 (j + 1)) (n + 1)
  have h4 := Upto.le (b := b) (n := n) (k := m) h2
  exact ⟨m, by omega, h2, h3 (by omega)⟩
theorem itR_nx (b : Nat → UInt8) (k : Nat) : itR b (k + 1) = ((itR b k).1 ++ [recB b (itR b k).2 (lenIn (secL b (itR b k).2))], (itR b k).2 + kS (lenIn (secL b (itR b k).2))) := rfl
/-- Bytes that are only read. -/
def byE (L : Nat) (d : Value × List UInt8) : Ent L where
  bl := fun k => d.1.ownBlock = some k
  P := fun w => By w d.1 d.2 ∧ ∀ k, d.1.ownBlock = some k → L ≤ k ∧ k < w.heap.size
  fr := fun w w' h hP => by
    refine ⟨?_, fun k hk => ⟨(hP.2 k hk).1, ?_⟩⟩
    · obtain ⟨ao, k, c, h1, h2, h3, h4⟩ := hP.1
      refine ⟨ao, k, c, h1, h2, h3, fun ad e j u hu => ?_⟩
      subst e
      have h5 := h4 ad rfl j u hu
      have hb : (ad.add j).block = ad.block := by unfold Addr.add; split <;> rfl
      rw [← h5]
      refine World.cell?_of_block (w := w) ?_
      rw [hb]
      exact h ad.block (by rw [h1]; rfl)
    · have h5 := h k hk
      have h6 := (hP.2 k hk).2
      rw [Array.getElem?_eq_getElem h6] at h5
      exact (Array.getElem?_eq_some_iff.1 h5).1
  lo := fun w hP g hg => hP.2 g hg
def haveE (L : Nat) (v : Value) (hs : List (Value × List UInt8)) : List (Ent L) := tailE L 38 v hs.length (hs.map Prod.fst) :: hs.map (byE L)
/-- What the document's reading has found so far. -/
def RRel (L : Nat) (R : List (Ent L)) (w : World) (x : DV) (k : Nat) (v : Value) (wr : World) : Prop := ∃ ho hc hs, v = Value.slice ho k hc ∧ hs.length = k ∧ hs.map Prod.snd = (itR x.b k).1 ∧ Held (haveE L v hs ++ R) wr ∧ Below L w wr
theorem rrel_next {L h k : Nat} {R : List (Ent L)} {w wr w2 : World} {x : DV} {ho : Option Addr} {hc : Nat} (hr : RRel L R w x k (.slice ho k hc) wr) (hL : L ≤ wr.heap.size) (hk : k ≤ 1000) (hb : Below wr.heap.size wr w2) (hlo : wr.heap.size ≤ h) (hlt : h < w2.heap.size) {bs : List UInt8} (hbs : bs = recB x.b (itR x.b k).2 (lenIn (secL x.b (itR x.b k).2))) (hby : By w2 (.slice (some ⟨h, 0, none⟩) bs.length bs.length) bs) :
    ∃ v' w', (∀ ty, (Builtin.append_ #[30, 30] ty #[.slice ho k hc, .slice (some ⟨w2.heap.size, 0, none⟩) 1 1]).run Try.prog (w2.alloc (.cells #[.slice (some ⟨h, 0, none⟩) bs.length bs.length] 38)) = .ok v' w') ∧ RRel L R w x (k + 1) v' w' := by
  obtain ⟨_, _, hs, e, hl, hm, hH, hbl⟩ := hr
  cases e
  have h1 : Held (byE L (.slice (some ⟨h, 0, none⟩) bs.length bs.length, bs) :: (haveE L (.slice ho k hc) hs ++ R)) w2 := Held.fresh hH hb ⟨hby, fun j hj => by
    have e : some h = some j := hj
    cases e
    exact ⟨by omega, hlt⟩⟩ (fun j hj => by
    have e : some h = some j := hj
    cases e
    exact hlo)
  have h2 : Held (tailE L 38 (.slice ho k hc) k (hs.map Prod.fst) :: (hs.map (byE L) ++ (byE L (.slice (some ⟨h, 0, none⟩) bs.length bs.length, bs) :: R))) w2 := by
    refine h1.perm ?_
    unfold haveE
    rw [hl]
    refine (List.Perm.swap ..).trans (List.Perm.cons _ ?_)
    exact List.perm_middle.symm
  have hL2 : L ≤ w2.heap.size := Nat.le_trans hL hb.size
  obtain ⟨v', w', hrn, hH2, hc2, ⟨ao2, cc2, hv2⟩, hat2⟩ := h2.tailApp (t := 30) Try.underlying30 info30 rfl (.slice (some ⟨h, 0, none⟩) bs.length bs.length) rfl (by omega) (by omega) hL2
  refine ⟨v', w', hrn, ao2, cc2, hs ++ [(.slice (some ⟨h, 0, none⟩) bs.length bs.length, bs)], hv2, by rw [List.length_append, hl]; rfl, ?_, ?_, (hbl.trans (hb.mono hL)).trans (hc2.below hL2 (fun j hj => (tail_lt (h2.all _ (List.mem_cons_self ..)) j hj).1))⟩
  · rw [List.map_append, hm, itR_nx, List.map_cons, List.map_nil, hbs]
  · have e1 : haveE L v' (hs ++ [(.slice (some ⟨h, 0, none⟩) bs.length bs.length, bs)]) ++ R = tailE L 38 v' (k + 1) (hs.map Prod.fst ++ [.slice (some ⟨h, 0, none⟩) bs.length bs.length]) :: (hs.map (byE L) ++ (byE L (.slice (some ⟨h, 0, none⟩) bs.length bs.length, bs) :: R)) := by
      unfold haveE
      rw [List.length_append, hl, List.map_append, List.map_append]
      simp
    rw [e1]
    exact hH2
theorem rread_any {L g c : Nat} {x : DV} {R : List (Ent L)} (w : World) (h : Held R w) (hL : L ≤ w.heap.size) (hI : ∀ W, Below L w W → Held R W → By W (.slice (some ⟨g, 0, none⟩) (x.n * 512) c) (imgL x)) (hcap : x.n * 512 ≤ c) (hxn : x.n ≤ 1000) :
    Calls Try.prog 57 #[.slice (some ⟨g, 0, none⟩) (x.n * 512) c] w fun e w' => ∃ k v, e = .returned (.tuple #[v, .int .i64 ((itR x.b k).2 : Int)]) ∧ Full x.b x.n k ∧ RRel L R w x k v w' := by
  obtain ⟨K, hK, hF⟩ := full_ex x.b x.n
  have HF : Hid (Full x.b x.n K ∧ K ≤ x.n ∧ x.n ≤ 1000) := ⟨hF, hK, hxn⟩
  have HI : Hid (∀ W, Below L w W → Held R W → By W (.slice (some ⟨g, 0, none⟩) (x.n * 512) c) (imgL x)) := hI
  have H1 : Hid (RRel L R w x 0 (.slice none 0 0) w) := ⟨none, 0, [], rfl, rfl, rfl, h.add (tail_nil _ _ _) (fun k hk => by cases hk), Below.refl _ _⟩
  have HCP : Hid (x.n * 512 ≤ c) := hcap
  have HLL : Hid (L ≤ w.heap.size) := hL
  clear h hI hF hK hcap hL
  go_enter Try.func57, Try.ntmps57
  go_wp2_with fail
  go_loopg [4, 5] (K + 1) (fun gk s4 s5 wr => ∃ k, gk + k = K + 1 ∧ k ≤ K ∧ s5 = .int .i64 ((itR x.b k).2 : Int) ∧ RRel L R w x k s4 wr)
  case atStart => exact ⟨0, by omega, Nat.zero_le _, rfl, H1.out⟩
  case round =>
    clear H1
    obtain ⟨k, hgk, hkK, rfl, hR⟩ := hrel
    obtain ⟨ho, hc, hs, rfl, hr⟩ := id hR
    have hbl : Below L w wr := hr.2.2.2
    have hLr : L ≤ wr.heap.size := Nat.le_trans HLL.out hbl.size
    have hHR : Held R wr := Held.tailR hr.2.2.1
    have hby := HI.out wr hbl hHR
    have hle := Upto.le (fun j hj => HF.out.1.1 j (by omega) : Upto x.b x.n k)
    have HR : Hid (RRel L R w x k (.slice ho k hc) wr) := hR
    have HG : Hid (gk + k = K + 1 ∧ L ≤ wr.heap.size) := ⟨hgk, hLr⟩
    have hk1000 : k ≤ 1000 := by have := HF.out.2; omega
    have hn1000 : (itR x.b k).2 ≤ 1000 := by have := HF.out.2; omega
    by_cases hlt : k < K
    · have hok := HF.out.1.1 k hlt
      have hst := stands_yes (num := k + 1) wr hby HCP.out hxn (by omega) hok
      have hfit := hok.fit.2
      have hnx := itR_nx x.b k
      have hrl := recB_len x.b (itR x.b k).2 (lenIn (secL x.b (itR x.b k).2))
      obtain ⟨bs, hbs⟩ : ∃ bs, bs = recB x.b (itR x.b k).2 (lenIn (secL x.b (itR x.b k).2)) := ⟨_, rfl⟩
      rw [← hbs] at hst hrl
      have HBS : Hid (bs = recB x.b (itR x.b k).2 (lenIn (secL x.b (itR x.b k).2))) := hbs
      have hbl8 : bs.length ≤ 8192 := by rw [hrl]; exact hfit
      have HNX : Hid ((itR x.b (k + 1)).2 = (itR x.b k).2 + kS bs.length) := by rw [Hid, hnx, hrl]
      have HST : Hid _ := hst
      obtain ⟨nx, hnxe⟩ : ∃ nx, nx = (itR x.b k).2 := ⟨_, rfl⟩
      rw [← hnxe] at HST HNX hn1000 ⊢
      have hk2 := kS_le bs.length hbl8
      clear hR hr hbl hLr hHR hby hle hgk hok hst hfit hnx hrl hbs hnxe
      obtain ⟨bl, hble⟩ : ∃ bl, bl = bs.length := ⟨_, rfl⟩
      have HBL : Hid (bl = bs.length) := hble
      rw [← hble] at HST hbl8 HNX hk2
      have HKC : Hid (∀ X : World, Calls Try.prog 59 #[.int .i64 (bl : Int)] X fun e w' => e = .returned (.int .i64 (kS bl : Int)) ∧ w' = X) := fun X => count_any bl X (by omega)
      obtain ⟨kb, hkb⟩ : ∃ kb, kb = kS bl := ⟨_, rfl⟩
      rw [← hkb] at HKC HNX hk2
      clear hble hkb
      go_wp2_with fail
      refine Calls.mono HST.out ?_
      rintro e w2 ⟨hh, rfl, g1, g2, g3, g4⟩
      obtain ⟨v', w3, hr3, hR3⟩ := rrel_next HR.out HG.out.2 hk1000 g4 g1 g2 HBS.out (by rw [← HBL.out]; exact g3)
      rw [← HBL.out] at hr3
      have HR3 : Hid (∀ ty, (Builtin.append_ #[30, 30] ty #[.slice ho k hc, .slice (some ⟨w2.heap.size, 0, none⟩) 1 1]).run Try.prog (w2.alloc (.cells #[.slice (some ⟨hh, 0, none⟩) bl bl] 38)) = .ok v' w3) := hr3
      have HN : Hid (RRel L R w x (k + 1) v' w3) := hR3
      obtain ⟨ho', hc', _, hv', _⟩ := hR3
      subst hv'
      clear HST g1 g2 g3 g4 hr3
      go_wp2_with (at_builtin; refine wpList_runs rfl _ _ 30 rfl rfl rfl HR3.out ?_)
      clear HR3
      refine Calls.mono (HKC.out _) ?_
      rintro e wo ⟨rfl, hwo⟩
      replace hwo := hwo.symm
      subst hwo
      clear HKC
      go_wp2_with fail
      go_roundg (gk - 1)
      case rel => exact ⟨k + 1, by have := HG.out; omega, by omega, by rw [HNX.out]; push_cast; rfl, HN.out⟩
      case measure => have := HG.out; omega
    · obtain rfl : k = K := by omega
      have HST : Hid _ := stands_no (num := k + 1) wr hby HCP.out hxn (by omega) (by omega) HF.out.1.2
      obtain ⟨nx, hnxe⟩ : ∃ nx, nx = (itR x.b k).2 := ⟨_, rfl⟩
      have HNE : Hid (nx = (itR x.b k).2) := hnxe
      rw [← hnxe] at HST hn1000 ⊢
      clear hR hr hbl hLr hHR hby hle hgk hnxe
      go_wp2_with fail
      refine Calls.mono HST.out ?_
      rintro e w2 ⟨rfl, hb2⟩
      have HN : Hid (RRel L R w x k (.slice ho k hc) w2) := by
        obtain ⟨_, _, hs, e, h2, h3, h4, h5⟩ := HR.out
        cases e
        exact ⟨_, _, hs, rfl, h2, h3, h4.more hb2, h5.trans (hb2.mono HG.out.2)⟩
      clear HST hb2 HR
      go_wp2_with fail
      go_ret2
      exact ⟨k, _, by rw [← HNE.out]; rfl, HF.out.1, HN.out⟩
end Go.Proofs.Ytcnokgphioigoaa
