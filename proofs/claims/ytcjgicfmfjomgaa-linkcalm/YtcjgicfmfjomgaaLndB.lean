import Derived.Test.YtcjgicfmfjomgaaLnd
import Derived.Test.YtcjgicfmfjomgaaTak2
namespace Go.Proofs.Ytcjgicfmfjomgaa
open Go.RowKit Go.PlainAid Go.MapKept
set_option linter.unusedVariables false
set_option linter.unusedSimpArgs false
set_option maxRecDepth 100000 in
theorem within_lt (x : Int) (m : Nat) (w : World) (hx : -9223372036854775808 ≤ x ∧ x ≤ 9223372036854775807) (hm : 1 ≤ m) (hm2 : m ≤ 1000000) : Calls Try.prog 15 #[.int .i64 x, .int .i64 0, .int .i64 ((m : Int) - 1)] w fun e w' => ∃ i : Nat, i < m ∧ e = .returned (.int .i64 (i : Int)) ∧ w' = w := by
  obtain ⟨h1, h2⟩ := hx
  have hr : ∀ y : Int, 0 ≤ y → 0 ≤ y.tmod m ∧ y.tmod m < m := fun y hy => by
    rw [Int.tmod_eq_emod_of_nonneg hy]
    exact ⟨Int.emod_nonneg _ (by omega), Int.emod_lt_of_pos _ (by omega)⟩
  have HR : Hid (∀ y : Int, 0 ≤ y → 0 ≤ y.tmod m ∧ y.tmod m < m) := hr
  clear hr
  by_cases h : x < 0
  · go_enter Try.func15, Try.ntmps15
    go_upto_region 3 with fail
    have ha : IntKind.i64.wrap ((m : Int) - 1 - 0) = (m : Int) - 1 := by rw [IntKind.wrap_i64]; omega
    go_wp2_with fail
    go_ret
    have h3 := HR.out (-(x + 1)) (by omega)
    refine ⟨((-(x + 1)).tmod m).toNat, by omega, ?_, rfl⟩
    refine Eq.trans (b := Ending.returned (.int .i64 _)) rfl ?_
    congr 2
    rw [Int.toNat_of_nonneg h3.1]
    rw [Int.neg_tmod] at h3 ⊢
    unfold wrap64
    omega
  · go_enter Try.func15, Try.ntmps15
    go_wp2_with fail
    go_ret
    have h3 := HR.out x (by omega)
    refine ⟨(x.tmod m).toNat, by omega, ?_, rfl⟩
    refine Eq.trans (b := Ending.returned (.int .i64 _)) rfl ?_
    congr 2
    rw [Int.toNat_of_nonneg h3.1]
    rw [Int.tmod_eq_emod_of_nonneg (by omega)] at h3 ⊢
    unfold wrap64
    omega
/-- Send, of data however long. -/
theorem sendB_any {L lb cb mb : Nat} {uv v : Value} {x : LV} {s : List UInt8} (w : World) (h : LM L lb cb mb uv x w) (hb : 0 ≤ x.acked ∧ x.acked ≤ 1099511627776) (hw : x.win ≤ 16) (hs : x.box.length + x.under.length ≤ x.win) (hd : By w v s) :
    Calls Try.prog 18 #[.pointer (some ⟨lb, 0, none⟩), v] w fun e w' => e = .returned (.int .i64 (sendCode x s)) ∧ ∃ x', SentTo x s x' ∧ LM L lb cb mb uv x' w' ∧ LStp lb cb mb uv uv x x' w w' := by
  by_cases h4 : s.length ≤ 4000
  · exact send_any w h hb hw hs hd (by omega)
  · obtain ⟨ao, k, c, rfl, hk, _⟩ := hd
    subst hk
    have h4' : (4000 : Int) < (s.length : Int) := by omega
    have HSC : Hid (sendCode x s = 2) := show sendCode x s = 2 from by unfold sendCode; rw [if_pos (by omega)]
    have HM : Hid _ := h
    clear h h4
    go_enter Try.func18, Try.ntmps18
    go_wp2_with fail
    go_ret
    refine ⟨by rw [HSC.out]; rfl, x, ?_, HM.out, LStp.refl (Below.refl _ _)⟩
    unfold SentTo
    rw [HSC.out, if_neg (by decide)]
/-- Bytes behind a row of one's own. -/
theorem app_bytesB {w : World} {base k : Nat} {v : Value} {xs : List Value} (hown : w.ownsRow base 5 1 v k xs) (hbase : base ≤ w.heap.size) (ps : List UInt8) (hl : k + ps.length ≤ 140737488355328) :
    ∃ v' w', (∀ ty, (Builtin.append_ #[41, 41] ty #[v, .slice (some ⟨w.heap.size, 0, none⟩) ps.length ps.length]).run Try.prog (w.alloc (.cells (ps.map B).toArray 5)) = .ok v' w') ∧ w'.ownsRow base 5 1 v' (k + ps.length) (xs ++ ps.map B) ∧ Grew w w' v v' := by
  obtain ⟨v', w', h1, h2, h3⟩ := app_rows (w := w.alloc (.cells (ps.map B).toArray 5)) 41 5 (.int .u8 0) 1 1 Try.underlying41 info5' rfl (by decide) (by decide) (hown.alloc _) (ao := some ⟨w.heap.size, 0, none⟩) (m := ps.length) (cap := ps.length) (ys := ps.map B) (by simp) (fun h => by cases h) (fun ad e j u hu => by
    cases e
    have hB : Blk (w.alloc (.cells (ps.map B).toArray 5)) w.heap.size (ps.map B).toArray 5 := heap_alloc_new w _
    rw [addr_add, Nat.zero_add, hB.cell j]
    simpa using hu) (oneB ps) (by omega) (by rw [World.size_alloc]; omega)
  exact ⟨v', w', h1, h2, h3.ofAlloc⟩
set_option maxRecDepth 100000 in
set_option maxHeartbeats 3200000 in
theorem lendB_any {v : Value} {s : List UInt8} (w : World) (h : By w v s) (hs : s.length ≤ 140737488351232) :
    Calls Try.prog 19 #[v] w fun e w' => ∃ v', e = .returned v' ∧ w'.ownsRow w.heap.size 5 1 v' (s.length + 3) ((s ++ [167, 182, 197]).map B) ∧ Below w.heap.size w w' := by
  obtain ⟨ao, n, cap, rfl, hn, h0, hc⟩ := h
  have HN : Hid (s.length = n) := hn
  have HC : Hid (∀ ad, ao = some ad → ∀ j u, (s.map B)[j]? = some u → w.cell? (ad.add j) = some u) := hc
  have H0 : Hid (ao = none → n = 0) := fun e => (h0 e).1
  have hnl : n ≤ 140737488351232 := by omega
  clear hn hc h0 hs
  go_enter Try.func19, Try.ntmps19
  go_wp2_with fail
  go_loopw [4, 3] (fun s4 s3 wr => ∃ vd, vd = s3 ∧ ∃ i : Nat, i ≤ n ∧ s4 = .int .i64 (i : Int) ∧ wr.ownsRow w.heap.size 5 1 vd i ((s.take i).map B) ∧ Below w.heap.size w wr) (fun s4 _ _ => n - (intOf s4).toNat)
  case atStart => exact ⟨_, rfl, 0, Nat.zero_le _, rfl, World.ownsRow_nil _ _ _ _, Below.refl _ _⟩
  case round =>
    obtain ⟨vd, rfl, i, hi, rfl, hr, hb⟩ := hrel
    obtain ⟨vo, vc, hvd, _⟩ := own_slice hr
    by_cases hlt : i < n
    · cases ao with
      | none => have := H0.out rfl; omega
      | some ad =>
        have hlt' : i < s.length := by rw [HN.out]; exact hlt
        obtain ⟨b, hbb⟩ : ∃ b, s[i]? = some b := ⟨s[i], List.getElem?_eq_getElem hlt'⟩
        have h1 := HC.out ad rfl i (B b) (by rw [List.getElem?_map, hbb]; rfl)
        have cu : wr.cell? (ad.add i) = some (.int .u8 (b.toNat : Int)) := (hb.cell (World.block_lt_of_cell? w _ h1)).trans h1
        obtain ⟨v5, w5, hr5, ho5, hg5⟩ := app_bytesB hr hb.size [b] (by simp; omega)
        have HHR : Hid (∀ ty, (Builtin.append_ #[41, 41] ty #[vd, .slice (some ⟨wr.heap.size, 0, none⟩) 1 1]).run Try.prog (wr.alloc (.cells #[.int .u8 (b.toNat : Int)] 5)) = .ok v5 w5) := hr5
        have HO5 : Hid (w5.ownsRow w.heap.size 5 1 v5 (i + 1) ((s.take (i + 1)).map B)) := show World.ownsRow _ _ _ _ _ _ _ from by
          rw [List.take_add_one, hbb]
          simpa using ho5
        have HB5 : Hid (Below w.heap.size w w5) := show Below w.heap.size w w5 from hb.trans (hg5.below (fun q hq => (ownsRow_lt hr hq).1) hb.size)
        subst hvd
        clear hr hb hr5 ho5 hg5 h1 hbb hlt'
        go_wp2_with (at_builtin; refine wpList_runs rfl _ _ 41 rfl rfl rfl HHR.out ?_)
        go_roundw
        case rel => exact ⟨_, rfl, i + 1, by omega, by go_num, HO5.out, HB5.out⟩
        case measure => simp [intOf]; omega
    · obtain rfl : i = n := by omega
      have htk : s.take i = s := List.take_of_length_le (by rw [HN.out]; exact Nat.le_refl _)
      rw [htk] at hr
      obtain ⟨v5, w5, hr5, ho5, hg5⟩ := app_bytesB hr hb.size [167, 182, 197] (by simp; omega)
      have HHR : Hid (∀ ty, (Builtin.append_ #[41, 41] ty #[vd, .slice (some ⟨wr.heap.size, 0, none⟩) 3 3]).run Try.prog (wr.alloc (.cells #[.int .u8 167, .int .u8 182, .int .u8 197] 5)) = .ok v5 w5) := hr5
      have HO5 : Hid (w5.ownsRow w.heap.size 5 1 v5 (s.length + 3) ((s ++ [167, 182, 197]).map B)) := show World.ownsRow _ _ _ _ _ _ _ from by
        rw [List.map_append, HN.out]
        exact ho5
      have HB5 : Hid (Below w.heap.size w w5) := show Below w.heap.size w w5 from hb.trans (hg5.below (fun q hq => (ownsRow_lt hr hq).1) hb.size)
      subst hvd
      clear hr hb hr5 ho5 hg5 htk
      go_wp2_with (at_builtin; refine wpList_runs rfl _ _ 41 rfl rfl rfl HHR.out ?_)
      go_ret
      exact ⟨_, rfl, HO5.out, HB5.out⟩
end Go.Proofs.Ytcjgicfmfjomgaa
