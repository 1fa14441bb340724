import Derived.Test.YtcnokgphioigoaaJF
namespace Go.Proofs.Ytcnokgphioigoaa
open Go.RowKit Go.PlainAid
set_option linter.unusedVariables false
set_option linter.unusedSimpArgs false
def ReadPost (w : World) (m k len : Nat) (bs : List UInt8) (e : Ending) (w' : World) : Prop := (m = k → ∃ v', e = .returned (.tuple #[v', .bool true]) ∧ w'.ownsRow w.heap.size 5 1 v' len (bs.map B)) ∧ (m < k → e = .returned (.tuple #[.slice none 0 0, .bool false])) ∧ Below w.heap.size w w'
set_option maxRecDepth 100000 in
set_option maxHeartbeats 6400000 in
/-- Reading a record whose first m sectors are right. -/
theorem read_m {L jb s m : Nat} {y : JV} {x : DV} {R : List (Ent L)} (w : World) (h : Held (y.es L jb ++ (dmE L y.p s x :: R)) w) (ho : x.off = false) (hn : y.next < x.n) (hxn : x.n ≤ 65536) (hr : y.recs.length ≤ 1000) (hlen : lenIn (secL x.b y.next) ≤ 8192) (hm : m ≤ kS (lenIn (secL x.b y.next))) (hgood : ∀ p, p < m → goodP x.b x.n y.next (y.recs.length + 1) (lenIn (secL x.b y.next)) p) (hbad : m < kS (lenIn (secL x.b y.next)) → ¬ goodP x.b x.n y.next (y.recs.length + 1) (lenIn (secL x.b y.next)) m) :
    Calls Try.prog 35 #[.pointer (some ⟨jb, 0, none⟩)] w (ReadPost w m (kS (lenIn (secL x.b y.next))) (lenIn (secL x.b y.next)) (recB x.b y.next (lenIn (secL x.b y.next)))) := by
  obtain ⟨len, hle⟩ : ∃ len, len = lenIn (secL x.b y.next) := ⟨_, rfl⟩
  rw [← hle] at hlen hm hgood hbad ⊢
  obtain ⟨nx, hnx⟩ : ∃ nx, nx = y.next := ⟨_, rfl⟩
  rw [← hnx] at hn hgood hbad ⊢
  obtain ⟨num, hnum⟩ : ∃ num : Nat, num = y.recs.length + 1 := ⟨_, rfl⟩
  rw [← hnum] at hgood hbad
  have hk2 := kS_le len hlen
  have hkp := kS_pos len
  obtain ⟨k, hk⟩ : ∃ k, k = kS len := ⟨_, rfl⟩
  rw [← hk] at hm hbad hk2 hkp ⊢
  have HX : Hid (∀ X, Below w.heap.size w X → X.cell? ⟨jb, 0, none⟩ = some (.pointer (some ⟨y.p, 0, none⟩)) ∧ X.cell? ⟨jb, 2, none⟩ = some (.int .i64 (nx : Int)) ∧ Calls Try.prog 52 #[.pointer (some ⟨jb, 0, none⟩)] X (fun e w' => e = .returned (.int .i64 (num : Int)) ∧ w' = X)) := fun X hX => by
    have h1 := h.more hX
    exact ⟨(jbox h1).cell 0, by rw [hnx]; exact (jbox h1).cell 2, by rw [hnum]; exact number_any X h1 (by omega)⟩
  have HRD : Hid (∀ X (z : Int) (i : Nat), z = ((nx + i : Nat) : Int) → nx + i < x.n → Below w.heap.size w X → Calls Try.prog 32 #[.pointer (some ⟨y.p, 0, none⟩), .int .i64 z] X fun e w' => ∃ g c, e = .returned (.tuple #[.slice (some ⟨g, 0, none⟩) 512 c, .int .i64 0]) ∧ w'.ownsRow X.heap.size 5 1 (.slice (some ⟨g, 0, none⟩) 512 c) 512 ((secL x.b (nx + i)).map B) ∧ 512 ≤ c ∧ Below w.heap.size w w' ∧ Below X.heap.size X w') := fun X z i hz hi hX => by
    rw [hz]
    refine (read_yes (nx + i) X ((h1d h).more hX) ho hi).mono ?_
    rintro e w' ⟨v', rfl, h2, h3⟩
    obtain ⟨g, c, cur, e, _⟩ : ∃ g c cur, v' = .slice (some ⟨g, 0, none⟩) 512 c ∧ cur = () := by
      rcases h2.2 with ⟨_, e2⟩ | ⟨g, c, cur, e, _⟩
      · omega
      · exact ⟨g, c, (), e, rfl⟩
    subst e
    obtain ⟨ao, cc, e, hc⟩ := own_slice h2
    cases e
    exact ⟨g, c, rfl, h2, hc, hX.trans (h3.mono hX.size), h3⟩
  have HRN : Hid (∀ X (z : Int) (i : Nat), z = ((nx + i : Nat) : Int) → x.n ≤ nx + i → Below w.heap.size w X → Calls Try.prog 32 #[.pointer (some ⟨y.p, 0, none⟩), .int .i64 z] X fun e w' => e = .returned (.tuple #[.slice none 0 0, .int .i64 201]) ∧ w' = X) := fun X z i hz hi hX => by
    have e1 : reachE x z = 201 := by unfold reachE; rw [if_neg (by simp [ho]), if_pos (by omega)]
    have h2 := read_no z X ((h1d h).more hX) (by rw [e1]; decide)
    rw [e1] at h2
    exact h2
  have HLN : Hid (∀ (X : World) (L' g c : Nat), X.ownsRow L' 5 1 (.slice (some ⟨g, 0, none⟩) 512 c) 512 ((secL x.b (nx + 0)).map B) → Calls Try.prog 49 #[.slice (some ⟨g, 0, none⟩) 512 c] X fun e w' => e = .returned (.int .i64 (len : Int)) ∧ ∃ q, w' = X.drewN q) := fun X L' g c hg => by rw [hle, ← hnx]; exact lengthIn_any X hg
  have HK : Hid (∀ X : World, Calls Try.prog 39 #[.int .i64 (len : Int)] X fun e w' => e = .returned (.int .i64 (k : Int)) ∧ w' = X) := fun X => by rw [hk]; exact kS_any len X (by omega)
  have HMK : Hid (∀ (X : World) (i : Nat), i ≤ 17 → Calls Try.prog 51 #[.int .i64 (num : Int), .int .i64 (i : Int), .int .i64 (len : Int)] X fun e w' => e = .returned (.agg (markA num i len)) ∧ Below X.heap.size X w') := fun X i hi => mark_any num i len X (by omega) (by omega) (by omega)
  have HBR : Hid (∀ (X : World) (i L' g c : Nat), X.ownsRow L' 5 1 (.slice (some ⟨g, 0, none⟩) 512 c) 512 ((secL x.b (nx + i)).map B) → 512 ≤ c → Calls Try.prog 50 #[.slice (some ⟨g, 0, none⟩) 512 c, .agg (markA num i len)] X fun e w' => e = .returned (.bool (bearsB (secL x.b (nx + i)) (markL num i len))) ∧ Below X.heap.size X w') := fun X i L' g c hg hc => bears_any (m := markL num i len) X hg hc (markL_len _ _ _)
  have HPR : Hid (∀ (X : World) (g i : Nat), i < k → Calls Try.prog 53 #[.slice (some ⟨g, 0, none⟩) len len, .int .i64 (i : Int)] X fun e w' => e = .returned (.slice (some ⟨g, i * 496, none⟩) (plN len i) (len - i * 496)) ∧ w' = X) := fun X g i hi => part_row X hlen (by rw [← hk]; exact hi)
  have HKK : Hid (k = kS len) := hk
  have hl8 : len ≤ 8192 := by omega
  have hnb : nx ≤ 65536 := by omega
  have HGD : Hid ((∀ p, p < m → goodP x.b x.n nx num len p) ∧ (m < k → ¬ goodP x.b x.n nx num len m)) := ⟨hgood, hbad⟩
  obtain ⟨c0, c2, _⟩ := HX.out w (Below.refl _ _)
  have HNN : Hid (nx < x.n) := hn
  clear h hlen hle hnx ho hn hxn hr hnum hk hgood hbad
  go_enter Try.func35, Try.ntmps35
  go_wp2_with fail
  go_cut [4, 5] from 8 to 26 (fun s4 s5 wy => s5 = .int .i64 0 ∧ ∃ g c, s4 = .slice (some ⟨g, 0, none⟩) 512 c ∧ wy.ownsRow w.heap.size 5 1 (.slice (some ⟨g, 0, none⟩) 512 c) 512 ((secL x.b (nx + 0)).map B) ∧ 512 ≤ c ∧ Below w.heap.size w wy)
  case first =>
    go_region_with (go_at_call 32; refine (HRD.out _ _ 0 (by simp) HNN.out (by first | exact Below.refl _ _ | exact (Below.refl _ _).drew)).mono ?_; rintro e w2 ⟨g, c, rfl, hg2, hc2, hb2, _⟩)
    all_goals
      have HG2 : Hid (∃ g' c', Value.slice (some ⟨g, 0, none⟩) 512 c = Value.slice (some ⟨g', 0, none⟩) 512 c' ∧ w2.ownsRow w.heap.size 5 1 (.slice (some ⟨g', 0, none⟩) 512 c') 512 ((secL x.b (nx + 0)).map B) ∧ 512 ≤ c' ∧ Below w.heap.size w w2) := ⟨g, c, rfl, hg2, hc2, hb2⟩
      clear hg2 hc2 hb2
      go_wp2_with fail
      go_meet
      case rel => exact ⟨rfl, HG2.out⟩
  case rest =>
  obtain ⟨rfl, g, c, rfl, hg2, hc2, hb2⟩ := hcut
  have hl9 : ¬ (8192 : Int) < (len : Int) := by omega
  clear c0 c2
  go_wp2_with fail
  refine Calls.mono (HLN.out _ _ g c hg2) ?_
  rintro e w3 ⟨rfl, q3, hw3⟩
  have hg3 : w3.ownsRow w.heap.size 5 1 (.slice (some ⟨g, 0, none⟩) 512 c) 512 ((secL x.b (nx + 0)).map B) := by rw [hw3]; exact ownsRow_same hg2 (fun _ _ => rfl)
  have hb3 : Below w.heap.size w w3 := by rw [hw3]; exact below_dr hb2 q3
  clear hw3 hg2 hb2
  go_wp2_with fail
  refine Calls.mono (HLN.out _ _ g c hg3) ?_
  rintro e w4 ⟨rfl, q4, hw4⟩
  have hb4 : Below w.heap.size w w4 := by rw [hw4]; exact below_dr hb3 q4
  clear hw4 hg3 hb3 HLN
  obtain ⟨R4, hmk, hRs, hRa⟩ := mk_bytes len (by omega) w4
  have hB5 : Blk (w4.alloc (.cells R4 5)) w4.heap.size R4 5 := heap_alloc_new w4 _
  have hb5 : Below w.heap.size w (w4.alloc (.cells R4 5)) := hb4.alloc hb4.size _
  have hs4 : w.heap.size ≤ w4.heap.size := hb4.size
  obtain ⟨w5, hw5⟩ : ∃ w5, w5 = w4.alloc (.cells R4 5) := ⟨_, rfl⟩
  obtain ⟨g5, hg5⟩ : ∃ g5, g5 = w4.heap.size := ⟨_, rfl⟩
  rw [← hw5, ← hg5] at hmk hB5
  rw [← hw5] at hb5
  rw [← hg5] at hs4
  have HR0 : Hid ((∃ cur, Blk w5 g5 cur 5 ∧ cur.size = len ∧ ∀ j, j < min (0 * 496) len → cur[j]? = some (B ((recB x.b nx len).getD j 0))) ∧ Below w.heap.size w w5 ∧ w.heap.size ≤ g5) := ⟨⟨R4, hB5, hRs, fun j hj => by omega⟩, hb5, hs4⟩
  clear hw5 hg5 hb4 hRs hRa hb5 hB5 hs4
  go_wp2_with fail
  refine Calls.mono (HK.out _) ?_
  rintro e w6 ⟨rfl, hw6⟩
  replace hw6 := hw6.symm
  subst hw6
  clear hmk HK
  go_wp2_with fail
  go_loopw [33] (fun s33 wr => ∃ i : Nat, i ≤ m ∧ s33 = .int .i64 (i : Int) ∧ (∃ cur, Blk wr g5 cur 5 ∧ cur.size = len ∧ ∀ j, j < min (i * 496) len → cur[j]? = some (B ((recB x.b nx len).getD j 0))) ∧ Below w.heap.size w wr) (fun s33 _ => m + 1 - (intOf s33).toNat)
  case atStart => exact ⟨0, Nat.zero_le _, rfl, HR0.out.1, HR0.out.2.1⟩
  case round =>
    have HG5 : Hid (w.heap.size ≤ g5) := HR0.out.2.2
    clear HR0
    obtain ⟨i, hi, rfl, hcur, hbr⟩ := hrel
    obtain ⟨c0, c2, hNU⟩ := HX.out wr hbr
    have HCU : Hid (∃ cur, Blk wr g5 cur 5 ∧ cur.size = len ∧ ∀ j, j < min (i * 496) len → cur[j]? = some (B ((recB x.b nx len).getD j 0))) := hcur
    have HBW : Hid (Below w.heap.size w wr) := hbr
    have HIM : Hid (i ≤ m ∧ m ≤ k) := ⟨hi, hm⟩
    by_cases hik : i < k
    · have hiki : (i : Int) < (k : Int) := by omega
      have hi17 : i ≤ 17 := by omega
      clear hcur hbr hNU
      by_cases hin : nx + i < x.n
      · go_wp2_with fail
        go_cut [4, 5] from 34 to 69 (fun s4 s5 wy => s5 = .int .i64 0 ∧ ∃ g c, s4 = .slice (some ⟨g, 0, none⟩) 512 c ∧ wy.ownsRow wr.heap.size 5 1 (.slice (some ⟨g, 0, none⟩) 512 c) 512 ((secL x.b (nx + i)).map B) ∧ 512 ≤ c ∧ Below w.heap.size w wy ∧ Below wr.heap.size wr wy)
        case first =>
          go_region_with (go_at_call 32; refine (HRD.out _ _ i (by first | rfl | (push_cast; rfl) | (rw [IntKind.wrap_i64]; omega) | omega) hin (by first | exact HBW.out | exact HBW.out.drew)).mono ?_; rintro e w7 ⟨g7, c7, rfl, hg7, hc7, hb7, hb8⟩)
          all_goals
            have HG7 : Hid (∃ g' c', Value.slice (some ⟨g7, 0, none⟩) 512 c7 = Value.slice (some ⟨g', 0, none⟩) 512 c' ∧ w7.ownsRow wr.heap.size 5 1 (.slice (some ⟨g', 0, none⟩) 512 c') 512 ((secL x.b (nx + i)).map B) ∧ 512 ≤ c' ∧ Below w.heap.size w w7 ∧ Below wr.heap.size wr w7) := ⟨g7, c7, rfl, hg7, hc7, hb7, by first | exact hb8 | exact (below_dr (Below.refl _ _) 1).trans hb8⟩
            clear hg7 hc7 hb7 hb8
            go_wp2_with fail
            go_meet
            case rel => exact ⟨rfl, HG7.out⟩
        case rest =>
          obtain ⟨rfl, g7, c7, rfl, hg7, hc7, hb7, hb8⟩ := hcut
          have HNU : Hid _ := (HX.out wc hb7).2.2
          have HG7 : Hid (wc.ownsRow wr.heap.size 5 1 (.slice (some ⟨g7, 0, none⟩) 512 c7) 512 ((secL x.b (nx + i)).map B) ∧ 512 ≤ c7 ∧ Below w.heap.size w wc ∧ Below wr.heap.size wr wc) := ⟨hg7, hc7, hb7, hb8⟩
          clear hg7 hc7 hb7 hb8 c0 c2
          go_wp2_with fail
          refine Calls.mono HNU.out ?_
          rintro e w8 ⟨rfl, hw8⟩
          replace hw8 := hw8.symm
          subst hw8
          clear HNU
          go_wp2_with fail
          refine Calls.mono (HMK.out _ i hi17) ?_
          rintro e w9 ⟨rfl, hb9⟩
          have HG9 : Hid (w9.ownsRow wr.heap.size 5 1 (.slice (some ⟨g7, 0, none⟩) 512 c7) 512 ((secL x.b (nx + i)).map B) ∧ 512 ≤ c7 ∧ Below w.heap.size w w9 ∧ Below wr.heap.size wr w9) := ⟨ownsRow_same HG7.out.1 (fun q hq => hb9.block q (ownsRow_lt HG7.out.1 hq).2), HG7.out.2.1, HG7.out.2.2.1.trans (hb9.mono HG7.out.2.2.1.size), HG7.out.2.2.2.trans (hb9.mono HG7.out.2.2.2.size)⟩
          clear hb9 HG7
          have HBB : Hid _ := HBR.out w9 i _ g7 c7 HG9.out.1 HG9.out.2.1
          have HBI : Hid ((i < m → bearsB (secL x.b (nx + i)) (markL num i len) = true) ∧ (i = m → bearsB (secL x.b (nx + i)) (markL num i len) = false)) := ⟨fun h => (HGD.out.1 i h).2, fun h => by
            have h2 := HGD.out.2 (by omega)
            rw [← h] at h2
            cases hbe : bearsB (secL x.b (nx + i)) (markL num i len) with
            | false => rfl
            | true => exact absurd ⟨hin, hbe⟩ h2⟩
          generalize bearsB (secL x.b (nx + i)) (markL num i len) = bb at HBB HBI
          generalize markA num i len = MM at HBB ⊢
          go_wp2_with fail
          refine Calls.mono HBB.out ?_
          rintro e w10 ⟨rfl, hb10⟩
          have HG10 : Hid (w10.ownsRow wr.heap.size 5 1 (.slice (some ⟨g7, 0, none⟩) 512 c7) 512 ((secL x.b (nx + i)).map B) ∧ 512 ≤ c7 ∧ Below w.heap.size w w10 ∧ Below wr.heap.size wr w10) := ⟨ownsRow_same HG9.out.1 (fun q hq => hb10.block q (ownsRow_lt HG9.out.1 hq).2), HG9.out.2.1, HG9.out.2.2.1.trans (hb10.mono HG9.out.2.2.1.size), HG9.out.2.2.2.trans (hb10.mono HG9.out.2.2.2.size)⟩
          clear hb10 HG9 HBB
          by_cases him : i < m
          · have hbt := HBI.out.1 him
            subst hbt
            have HP := HPR.out w10 g5 i hik
            have HPP : Hid _ := HP
            have HBD : Hid _ := body_any w10 HG10.out.1 HG10.out.2.1
            obtain ⟨cur, q1, q2, q3⟩ := HCU.out
            have q4 : Blk w10 g5 cur 5 := (HG10.out.2.2.2.block g5 q1.lt).trans q1
            have HQ : Hid (Blk w10 g5 cur 5 ∧ cur.size = len ∧ ∀ j, j < min (i * 496) len → cur[j]? = some (B ((recB x.b nx len).getD j 0))) := ⟨q4, q2, q3⟩
            clear HP q1 q2 q3 q4 HCU
            go_wp2_with fail
            refine Calls.mono HPP.out ?_
            rintro e wo ⟨rfl, hwo⟩
            replace hwo := hwo.symm
            subst hwo
            clear HPP
            go_wp2_with fail
            refine Calls.mono HBD.out ?_
            rintro e wo ⟨rfl, hby, hwo⟩
            replace hwo := hwo.symm
            subst hwo
            clear HBD
            have hpl : i * 496 + plN len i ≤ len := by have := HKK.out; have := hik; unfold plN; unfold kS at *; omega
            have hsl : (((secL x.b (nx + i)).drop 8).take 496).length = 496 := by rw [List.length_take, List.length_drop, secL_len]; rfl
            have hpn : plN len i ≤ 496 := by unfold plN; omega
            obtain ⟨w11, hcp, ⟨cur2, hcb2, hcs2, hca2⟩, hch⟩ := copy_by (o := i * 496) (dLen := plN len i) (dCap := len - i * 496) HQ.out.1 hby (by rw [hsl, HQ.out.2.1]; omega)
            have hmn : min (((secL x.b (nx + i)).drop 8).take 496).length (plN len i) = plN len i := by rw [hsl]; omega
            rw [hmn] at hcp hca2
            have HN : Hid ((∃ cur, Blk w11 g5 cur 5 ∧ cur.size = len ∧ ∀ j, j < min ((i + 1) * 496) len → cur[j]? = some (B ((recB x.b nx len).getD j 0))) ∧ Below w.heap.size w w11) := ⟨⟨cur2, hcb2, by rw [hcs2]; exact HQ.out.2.1, fun j hj => by
              rw [hca2 j]
              split
              · rename_i hjj
                rw [sec_body _ _ _ (by omega), recB_getD _ _ _ _ (by omega)]
                have e1 : j / 496 = i := by omega
                have e2 : j % 496 = j - i * 496 := by omega
                rw [e1, e2]
              · refine HQ.out.2.2 j ?_
                unfold plN at *
                omega⟩, HG10.out.2.2.1.trans (hch.below HG10.out.2.2.1.size (fun k e => by have := HG5.out; omega))⟩
            clear hby hsl hcb2 hcs2 hca2 hch hmn HQ hpl hpn
            go_wp2_with fail
            go_roundw
            case rel => exact ⟨i + 1, by omega, by go_num, HN.out.1, HN.out.2⟩
            case measure => simp [intOf]; omega
          · have him2 : i = m := by omega
            have hbt := HBI.out.2 him2
            subst hbt
            have HF : Hid (Below w.heap.size w w10) := HG10.out.2.2.1
            clear HG10 HCU
            go_wp2_with fail
            go_ret2
            unfold ReadPost
            exact ⟨fun h => by have := HIM.out; omega, fun _ => rfl, HF.out⟩
      · have him2 : Hid (i = m) := show i = m from by
          by_cases h : i < m
          · exact absurd (HGD.out.1 i h).1 hin
          · omega
        go_wp2_with fail
        go_cut [4, 5] from 34 to 69 (fun s4 s5 wy => s4 = .slice none 0 0 ∧ s5 = .int .i64 201 ∧ Below w.heap.size w wy)
        case first =>
          go_region_with (go_at_call 32; refine (HRN.out _ _ i (by first | rfl | (push_cast; rfl) | (rw [IntKind.wrap_i64]; omega) | omega) (by omega) (by first | exact HBW.out | exact HBW.out.drew)).mono ?_; rintro e w7 ⟨rfl, hw7⟩)
          all_goals
            have HG7 : Hid (Below w.heap.size w w7) := by rw [hw7]; first | exact HBW.out | exact HBW.out.drew
            clear hw7
            go_wp2_with fail
            go_meet
            case rel => exact ⟨rfl, rfl, by first | exact HG7.out | exact HBW.out | exact HBW.out.drew⟩
        case rest =>
          obtain ⟨rfl, rfl, hb7⟩ := hcut
          have HF : Hid (Below w.heap.size w wc) := hb7
          clear hb7 c0 c2 HCU
          go_wp2_with fail
          go_ret2
          unfold ReadPost
          exact ⟨fun h => by have := HIM.out; have := him2.out; omega, fun _ => rfl, HF.out⟩
    · have hik2 : i = k := by omega
      have hmk : m = k := by omega
      have hiki : ¬ ((i : Int) < (k : Int)) := by omega
      obtain ⟨cur, q1, q2, q3⟩ := hcur
      have hown : wr.ownsRow w.heap.size 5 1 (.slice (some ⟨g5, 0, none⟩) len len) len ((recB x.b nx len).map B) := own_blk q1 HG5.out q2 (by unfold maxLen; omega) (fun j hj => q3 j (by have := HKK.out; unfold kS at this; omega)) (recB_len _ _ _)
      have HF : Hid (wr.ownsRow w.heap.size 5 1 (.slice (some ⟨g5, 0, none⟩) len len) len ((recB x.b nx len).map B) ∧ Below w.heap.size w wr) := ⟨hown, hbr⟩
      clear q1 q2 q3 hown hbr hNU c0 c2 HCU
      go_wp2_with fail
      go_ret2
      unfold ReadPost
      exact ⟨fun _ => ⟨_, rfl, HF.out.1⟩, fun h => by omega, HF.out.2⟩
end Go.Proofs.Ytcnokgphioigoaa
