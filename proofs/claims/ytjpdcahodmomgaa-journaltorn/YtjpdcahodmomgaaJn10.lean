import Derived.Test.YtjpdcahodmomgaaJn9
namespace Go.Proofs.Ytjpdcahodmomgaa
open Go.RowKit Go.PlainAid
set_option linter.unusedVariables false
set_option linter.unusedSimpArgs false
/-- The length that a sector's first mark tells. -/
def lenIn (sec : List UInt8) : Nat := (sec.getD 5 0).toNat + 256 * (sec.getD 6 0).toNat
def bearsB (sec m : List UInt8) : Bool := sec.take 8 == m && sec.drop 504 == m
set_option maxRecDepth 100000 in
set_option maxHeartbeats 3200000 in
theorem read_none {L jb s : Nat} {y : JV} {x : DV} {R : List (Ent L)} (w : World) (h : Held (y.es L jb ++ (dmE L y.p s x :: R)) w) (ho : x.off = false) (hn : y.next < x.n) (hxn : x.n ≤ 65536) (hr : y.recs.length ≤ 1000) (hlen : lenIn (secL x.b y.next) ≤ 8192) (hbr : bearsB (secL x.b y.next) (markL (y.recs.length + 1) 0 (lenIn (secL x.b y.next))) = false) :
    Calls Try.prog 36 #[.pointer (some ⟨jb, 0, none⟩)] w fun e w' => e = .returned (.tuple #[.slice none 0 0, .bool false]) ∧ Below w.heap.size w w' := by
  obtain ⟨len, hle⟩ : ∃ len, len = lenIn (secL x.b y.next) := ⟨_, rfl⟩
  obtain ⟨nx, hnx⟩ : ∃ nx, nx = y.next := ⟨_, rfl⟩
  have HX : Hid (∀ X, Below w.heap.size w X → X.cell? ⟨jb, 0, none⟩ = some (.pointer (some ⟨y.p, 0, none⟩)) ∧ X.cell? ⟨jb, 2, none⟩ = some (.int .i64 (nx : Int)) ∧ Calls Try.prog 55 #[.pointer (some ⟨jb, 0, none⟩)] X (fun e w' => e = .returned (.int .i64 ((y.recs.length + 1 : Nat) : Int)) ∧ w' = X)) := fun X hX => by
    have h1 := h.more hX
    exact ⟨(jbox h1).cell 0, by rw [hnx]; exact (jbox h1).cell 2, number_any X h1 (by omega)⟩
  have HRD : Hid (∀ X (z : Int), z = (nx : Int) → Below w.heap.size w X → Calls Try.prog 33 #[.pointer (some ⟨y.p, 0, none⟩), .int .i64 z] X fun e w' => ∃ g c, e = .returned (.tuple #[.slice (some ⟨g, 0, none⟩) 512 c, .int .i64 0]) ∧ w'.ownsRow w.heap.size 5 1 (.slice (some ⟨g, 0, none⟩) 512 c) 512 ((secL x.b y.next).map B) ∧ 512 ≤ c ∧ Below w.heap.size w w') := fun X z hz hX => by
    rw [hz, hnx]
    refine (read_yes y.next X ((h1d h).more hX) ho hn).mono ?_
    rintro e w' ⟨v', rfl, h2, h3⟩
    obtain ⟨g, c, cur, e, _⟩ : ∃ g c cur, v' = .slice (some ⟨g, 0, none⟩) 512 c ∧ cur = () := by
      rcases h2.2 with ⟨_, e2⟩ | ⟨g, c, cur, e, _⟩
      · omega
      · exact ⟨g, c, (), e, rfl⟩
    subst e
    obtain ⟨ao, cc, e, hc⟩ := own_slice h2
    cases e
    exact ⟨g, c, rfl, ownsRow_mono h2 hX.size, hc, hX.trans (h3.mono hX.size)⟩
  have HLN : Hid (∀ (X : World) (g c : Nat), X.ownsRow w.heap.size 5 1 (.slice (some ⟨g, 0, none⟩) 512 c) 512 ((secL x.b y.next).map B) → Calls Try.prog 52 #[.slice (some ⟨g, 0, none⟩) 512 c] X fun e w' => e = .returned (.int .i64 (len : Int)) ∧ ∃ q, w' = X.drewN q) := fun X g c hg => by rw [hle]; exact lengthIn_any X hg
  have HK : Hid (∀ X : World, Calls Try.prog 40 #[.int .i64 (len : Int)] X fun e w' => e = .returned (.int .i64 (kS len : Int)) ∧ w' = X) := fun X => kS_any len X (by omega)
  have HMK : Hid (∀ X : World, Calls Try.prog 54 #[.int .i64 ((y.recs.length + 1 : Nat) : Int), .int .i64 0, .int .i64 (len : Int)] X fun e w' => e = .returned (.agg (markA (y.recs.length + 1) 0 len)) ∧ Below X.heap.size X w') := fun X => mark_any (y.recs.length + 1) 0 len X (by omega) (by omega) (by omega)
  have HBR : Hid (∀ (X : World) (g c : Nat), X.ownsRow w.heap.size 5 1 (.slice (some ⟨g, 0, none⟩) 512 c) 512 ((secL x.b y.next).map B) → 512 ≤ c → Calls Try.prog 53 #[.slice (some ⟨g, 0, none⟩) 512 c, .agg (markA (y.recs.length + 1) 0 len)] X fun e w' => e = .returned (.bool false) ∧ Below X.heap.size X w') := fun X g c hg hc => by
    have := bears_any (m := markL (y.recs.length + 1) 0 len) X hg hc (markL_len _ _ _)
    rw [show ((secL x.b y.next).take 8 == markL (y.recs.length + 1) 0 len && (secL x.b y.next).drop 504 == markL (y.recs.length + 1) 0 len) = false from by rw [hle]; exact hbr] at this
    exact this
  have hl8 : len ≤ 8192 := by omega
  have hnb : nx ≤ 65536 := by omega
  have hk1 := kS_pos len
  have hk2 := kS_le len hl8
  obtain ⟨num, hnum⟩ : ∃ num : Nat, num = y.recs.length + 1 := ⟨_, rfl⟩
  have hnu : num ≤ 1001 := by omega
  rw [← hnum] at HX HMK HBR
  obtain ⟨k, hk⟩ : ∃ k, k = kS len := ⟨_, rfl⟩
  rw [← hk] at HK hk1 hk2
  obtain ⟨c0, c2, _⟩ := HX.out w (Below.refl _ _)
  clear h hlen hbr hle hnx ho hn hxn hr hnum hk
  go_enter Try.func36, Try.ntmps36
  go_wp2_with fail
  go_region_with (go_at_call 33; refine (HRD.out _ _ rfl (by first | exact Below.refl _ _ | exact (Below.refl _ _).drew)).mono ?_; rintro e w2 ⟨g, c, rfl, hg2, hc2, hb2⟩)
  all_goals
    have hl9 : ¬ (8192 : Int) < (len : Int) := by omega
    clear c0 c2
    go_wp2_with fail
    refine Calls.mono (HLN.out _ g c (ownsRow_same hg2 (fun _ _ => rfl))) ?_
    rintro e w3 ⟨rfl, q3, hw3⟩
    have hg3 : w3.ownsRow w.heap.size 5 1 (.slice (some ⟨g, 0, none⟩) 512 c) 512 ((secL x.b y.next).map B) := by rw [hw3]; exact ownsRow_same hg2 (fun _ _ => rfl)
    have hb3 : Below w.heap.size w w3 := by rw [hw3]; first | exact below_dr hb2 q3 | exact below_dr hb2.drew q3
    clear hw3 hg2 hb2
    go_wp2_with fail
    refine Calls.mono (HLN.out _ g c hg3) ?_
    rintro e w4 ⟨rfl, q4, hw4⟩
    have hb4 : Below w.heap.size w w4 := by rw [hw4]; exact below_dr hb3 q4
    clear hw4 hg3 hb3
    obtain ⟨R4, hmk, hRs, hRa⟩ := mk_bytes len (by omega) w4
    have hb5 : Below w.heap.size w (w4.alloc (.cells R4 5)) := hb4.alloc hb4.size _
    obtain ⟨w5, hw5⟩ : ∃ w5, w5 = w4.alloc (.cells R4 5) := ⟨_, rfl⟩
    obtain ⟨g5, hg5⟩ : ∃ g5, g5 = w4.heap.size := ⟨_, rfl⟩
    rw [← hw5, ← hg5] at hmk
    rw [← hw5] at hb5
    clear hw5 hg5 hb4 hRs hRa
    go_wp2_with fail
    refine Calls.mono (HK.out _) ?_
    rintro e w6 ⟨rfl, hw6⟩
    replace hw6 := hw6.symm
    subst hw6
    clear hmk HLN HK
    have HB5 : Hid (Below w.heap.size w w5) := hb5
    clear hb5
    go_wp2_with fail
    go_loopw [33] (fun s33 wr => s33 = .int .i64 0 ∧ Below w.heap.size w wr) (fun s33 _ => 0)
    case atStart => exact ⟨rfl, HB5.out⟩
    case round =>
      clear HB5
      obtain ⟨rfl, hbr⟩ := hrel
      obtain ⟨c0, c2, hnum⟩ := HX.out wr hbr
      have hk0 : (0 : Int) < (k : Int) := by omega
      have HBRR : Hid (Below w.heap.size w wr) := hbr
      clear hnum hbr
      go_wp2_with fail
      go_region_with (go_at_call 33; refine (HRD.out _ _ (by first | rfl | (rw [IntKind.wrap_i64]; omega) | (simp; done) | (simp [IntKind.wrap_i64]; omega)) (by first | exact HBRR.out | exact HBRR.out.drew)).mono ?_; rintro e w7 ⟨g7, c7, rfl, hg7, hc7, hb7⟩)
      all_goals
        clear c0 c2
        have HG7 : Hid (w7.ownsRow w.heap.size 5 1 (.slice (some ⟨g7, 0, none⟩) 512 c7) 512 ((secL x.b y.next).map B) ∧ 512 ≤ c7 ∧ Below w.heap.size w w7) := ⟨hg7, hc7, hb7⟩
        clear hg7 hc7 hb7
        go_wp2_with fail
        refine Calls.mono (HX.out _ (by first | exact HG7.out.2.2 | exact HG7.out.2.2.drew)).2.2 ?_
        rintro e w8 ⟨rfl, hw8⟩
        have hg8 : w8.ownsRow w.heap.size 5 1 (.slice (some ⟨g7, 0, none⟩) 512 c7) 512 ((secL x.b y.next).map B) := by rw [hw8]; exact ownsRow_same HG7.out.1 (fun _ _ => rfl)
        have hb8 : Below w.heap.size w w8 := by rw [hw8]; first | exact HG7.out.2.2 | exact HG7.out.2.2.drew
        have HG8 : Hid (w8.ownsRow w.heap.size 5 1 (.slice (some ⟨g7, 0, none⟩) 512 c7) 512 ((secL x.b y.next).map B) ∧ 512 ≤ c7 ∧ Below w.heap.size w w8) := ⟨hg8, HG7.out.2.1, hb8⟩
        clear hw8 hg8 hb8 HG7
        go_wp2_with fail
        refine Calls.mono (HMK.out _) ?_
        rintro e w9 ⟨rfl, hb9⟩
        have HG9 : Hid (w9.ownsRow w.heap.size 5 1 (.slice (some ⟨g7, 0, none⟩) 512 c7) 512 ((secL x.b y.next).map B) ∧ 512 ≤ c7 ∧ Below w.heap.size w w9) := ⟨ownsRow_same HG8.out.1 (fun q hq => hb9.block q (ownsRow_lt HG8.out.1 hq).2), HG8.out.2.1, HG8.out.2.2.trans (hb9.mono HG8.out.2.2.size)⟩
        clear hb9 HG8
        generalize markA num 0 len = MM at HBR ⊢
        go_wp2_with fail
        refine Calls.mono (HBR.out _ g7 c7 HG9.out.1 HG9.out.2.1) ?_
        rintro e w10 ⟨rfl, hb10⟩
        have HF : Hid (Below w.heap.size w w10) := HG9.out.2.2.trans (hb10.mono HG9.out.2.2.size)
        clear hb10 HG9
        go_wp2_with fail
        go_ret2
        exact ⟨rfl, HF.out⟩
end Go.Proofs.Ytjpdcahodmomgaa
