import Derived.Test.YtneiomimjgfbpaaRDec
namespace Go.Proofs.Ytneiomimjgfbpaa
open Go.RowKit Go.PlainAid

def zeroS : Array Value := segCells 0 0 0 0 (.slice none 0 0)
def SegIs (w' : World) (mb base : Nat) (s : Seg) : Prop := ∃ ao c, Blk w' mb (segCells s.src s.dst s.seq s.ack (.slice ao s.data.length c)) 46 ∧ w'.ownsRow base 5 1 (.slice ao s.data.length c) s.data.length (s.data.map B)
theorem own_mono {w : World} {base base' : Nat} {v : Value} {n : Nat} {xs : List Value} (h : w.ownsRow base 5 1 v n xs) (hb : base' ≤ base) : w.ownsRow base' 5 1 v n xs := by
  refine ⟨h.1, h.2.imp id ?_⟩
  rintro ⟨g, c', cur, e1, e2, e3⟩
  exact ⟨g, c', cur, e1, by omega, e3⟩
theorem own_stable {w w' : World} {base : Nat} {v : Value} {n : Nat} {xs : List Value} (h : w.ownsRow base 5 1 v n xs) (hk : ∀ k, base ≤ k → k < w.heap.size → w'.heap[k]? = w.heap[k]?) : w'.ownsRow base 5 1 v n xs := by
  refine ⟨h.1, h.2.imp id ?_⟩
  rintro ⟨g, c', cur, e1, e2, e3, e4⟩
  exact ⟨g, c', cur, e1, e2, (hk g e2 (Array.getElem?_eq_some_iff.1 e3).1).trans e3, e4⟩
def DecSPost (r : Res Seg) (w : World) (e : Ending) (w' : World) : Prop := Below w.heap.size w w' ∧ match r with
  | .error k => e = .returned (.tuple #[.agg zeroS, .int .i64 (k : Nat), .int .i64 20])
  | .ok (m, _) => ∃ ao c, e = .returned (.tuple #[.agg (segCells m.src m.dst m.seq m.ack (.slice ao m.data.length c)), .int .i64 0, .int .i64 0]) ∧ w'.ownsRow w.heap.size 5 1 (.slice ao m.data.length c) m.data.length (m.data.map B)
theorem zeroS_is : (#[Value.int IntKind.i64 0, .int .i64 0, .int .i64 0, .int .i64 0, .slice none 0 0] : Array Value) = zeroS := rfl

set_option maxRecDepth 100000 in
set_option maxHeartbeats 1600000 in
theorem clo37 (L base mb b off n cap : Nat) (bs : List UInt8) (w1 : World) (hS : RSt (L + 1 + 1) (some ⟨b, off, none⟩) n cap bs 0 w1) (hB : Blk w1 mb zeroS 46) (hm' : base ≤ mb) (hmL : mb < L) (hbb : b < base) (hL : L + 4 ≤ w1.heap.size) :
    Calls Try.prog 38 #[RH (L + 1 + 1), .pointer (some ⟨mb, 0, none⟩)] w1 (RClo L base (some ⟨b, off, none⟩) n cap bs w1 (segment.rd bs) fun m w' => SegIs w' mb (L + 4) m) := by
  have hm := segment_r (L + 1 + 1) b off n cap bs 0 mb w1 hS hB (by omega) (by omega) (by omega)
  unfold RH at *
  go_enter Try.func38, Try.ntmps38
  go_wp2_with fail
  refine hm.mono ?_
  intro e w2 h
  unfold RPostV at h
  rw [List.drop_zero] at h
  cases hr : segment.rd bs with
  | error k =>
    rw [hr] at h
    obtain ⟨rfl, hS2, hst⟩ := h
    rw [Nat.zero_add] at hS2
    exact ⟨rfl, ⟨hst.below (by omega) hm' (by omega), fun i h1 h2 h3 => hst.block i h3 h2 (by omega)⟩, by rw [hr]; exact ⟨rfl, hS2⟩⟩
  | ok v =>
    obtain ⟨m, k⟩ := v
    rw [hr] at h
    obtain ⟨⟨rfl, hM⟩, hS2, hst⟩ := h
    unfold tup
    rw [Nat.zero_add] at hS2
    have hfin : RClo L base (some ⟨b, off, none⟩) n cap bs w1 (segment.rd bs) (fun m w' => SegIs w' mb (L + 4) m) (.returned (.tuple #[])) w2 := by
      refine ⟨⟨hst.below (by omega) hm' (by omega), fun i h1 h2 h3 => hst.block i h3 h2 (by omega)⟩, ?_⟩
      rw [hr]
      obtain ⟨ao, c, h1, h2⟩ := hM
      exact ⟨⟨_, rfl⟩, ⟨ao, c, h1, own_mono h2 hL⟩, hS2⟩
    clear hm hr
    go_wp2
    go_end0
    exact hfin

set_option maxRecDepth 100000 in
set_option maxHeartbeats 3200000 in
theorem decodeSeg_any (b off n cap : Nat) (bs : List UInt8) (w : World) (hlen : bs.length = n) (hsrc : From w (some ⟨b, off, none⟩) bs) (hbw : b < w.heap.size) (hsm : n ≤ 140737488355328) (hrm : n ≤ cap) :
    Calls Try.prog 16 #[.slice (some ⟨b, off, none⟩) n cap] w (DecSPost (whole segment bs) w) := by
  have hmf : ∀ (fn : Fn) (first cap : Array Value) (w : World), (Instr.makeFunc fn first cap).run Try.prog w = .ok (.func fn first cap) w := fun _ _ _ _ => rfl
  have hb1 : Below w.heap.size w ((w.alloc (.cells zeroS 46)).alloc (.cells zeroS 46)) := by go_grown
  have n0 : Blk ((w.alloc (.cells zeroS 46)).alloc (.cells zeroS 46)) w.heap.size zeroS 46 := (Below.heap_alloc _ _ _ (by simp)).trans (heap_alloc_new w _)
  have n1 : Blk ((w.alloc (.cells zeroS 46)).alloc (.cells zeroS 46)) (w.heap.size + 1) zeroS 46 := by
    have := heap_alloc_new (w.alloc (.cells zeroS 46)) (.cells zeroS 46)
    rw [World.size_alloc] at this
    exact this
  have hz : ((w.alloc (.cells zeroS 46)).alloc (.cells zeroS 46)).heap.size = w.heap.size + 2 := by simp
  go_enter Try.func16, Try.ntmps16
  go_wp2_with fail
  rw [zeroS_is]
  have hrd := read_any segment (fun m w' => SegIs w' (w.heap.size + 1) (w.heap.size + 6) m) 38 (w.heap.size + 1) b off n cap #[.pointer (some ⟨w.heap.size + 1, 0, none⟩)] bs ((w.alloc (.cells zeroS 46)).alloc (.cells zeroS 46)) enter37 hlen
    (hsrc.keep (fun b' o' e => by cases e; exact hb1.block _ hbw)) (by omega) hsm hrm (by omega)
    (fun m w' w'' hk hM => by
      obtain ⟨ao, c, h1, h2⟩ := hM
      exact ⟨ao, c, (hk _ h1.lt (by omega)).trans h1, own_stable h2 fun k h3 h4 => hk k h4 (by omega)⟩)
    (fun w2 hS2 hb2 hz2 => by
      rw [hz] at *
      have hB2 : Blk w2 (w.heap.size + 1) zeroS 46 := (hb2.block _ (by omega)).trans n1
      exact clo37 (w.heap.size + 2) (w.heap.size + 1) (w.heap.size + 1) b off n cap bs w2 hS2 hB2 (by omega) (by omega) (by omega) hz2)
  generalize (w.alloc (.cells zeroS 46)).alloc (.cells zeroS 46) = w1 at *
  refine hrd.mono ?_
  rintro e w2 ⟨hbl, h⟩
  have hbB : Below w.heap.size w w2 := hb1.trans (hbl.mono (by omega))
  have hB0 : Blk w2 w.heap.size zeroS 46 := (hbl.block _ (by omega)).trans n0
  clear hrd n0 n1 hbl hb1
  cases hr : whole segment bs with
  | error k =>
    rw [hr] at h
    subst h
    have hfin : DecSPost (whole segment bs) w (.returned (.tuple #[.agg zeroS, .int .i64 (k : Nat), .int .i64 20])) (w2.setRow w.heap.size zeroS) := by
      refine ⟨hbB.trans ⟨rfl, rfl, rfl, by simp [World.setRow], fun k hk => setRow_other _ _ _ _ (by omega)⟩, ?_⟩
      rw [hr]
    have hB3 := setRow_blk (cs := zeroS) hB0
    have HF : Hid _ := hfin
    clear hfin hr hbB
    go_wp2_with (first | (refine wpList_store_row rfl 46 (.tmp 2) (.tmp 16) rfl w.heap.size zeroS rfl rfl 46 zeroS hB0 (by kernel_rfl) rfl (by kernel_rfl) ?_) | fail)
    go_wp2
    exact bodyPost_ret (results_cell2 Try.results16 _ _ w.heap.size zeroS rfl (run_loadVar_row _ _ 46 46 zeroS (0, 0) _ hB3 Try.underlying46 rfl (by kernel_rfl))) rfl HF.out
  | ok v =>
    obtain ⟨m, k⟩ := v
    rw [hr] at h
    obtain ⟨rfl, ao, c, hM, hV⟩ := h
    have hall : (segCells m.src m.dst m.seq m.ack (.slice ao m.data.length c)).all (·.oneCell') = true := by simp [segCells, Value.oneCell']
    have hfin : DecSPost (whole segment bs) w (.returned (.tuple #[.agg (segCells m.src m.dst m.seq m.ack (.slice ao m.data.length c)), .int .i64 0, .int .i64 0])) (w2.setRow w.heap.size (segCells m.src m.dst m.seq m.ack (.slice ao m.data.length c))) := by
      refine ⟨hbB.trans ⟨rfl, rfl, rfl, by simp [World.setRow], fun k hk => setRow_other _ _ _ _ (by omega)⟩, ?_⟩
      rw [hr]
      exact ⟨ao, c, rfl, own_mono (own_stable hV fun k h3 _ => setRow_other _ _ _ _ (by omega)) (by omega)⟩
    have hB3 := setRow_blk (cs := segCells m.src m.dst m.seq m.ack (.slice ao m.data.length c)) hB0
    have HF : Hid _ := hfin
    have HV : Hid _ := hV
    clear hfin hr hbB hV
    generalize hD : segCells m.src m.dst m.seq m.ack (.slice ao m.data.length c) = D at *
    have hsz : D.size = 5 := by rw [← hD]; rfl
    have hi46 : (Try.prog.info? 46).map (·.size) = some D.size := by rw [hsz]; kernel_rfl
    clear hD
    go_wp2_with (first | (refine wpList_load_row rfl 46 (.tmp 5) rfl (w.heap.size + 1) rfl 46 D (0, 0) _ hM Try.underlying46 rfl hi46 ?_) | (refine wpList_store_row rfl 46 (.tmp 2) (.tmp 19) rfl w.heap.size D rfl rfl 46 zeroS hB0 hi46 (by rw [hsz]; rfl) hall ?_) | fail)
    go_wp2
    exact bodyPost_ret (results_cell2 Try.results16 _ _ w.heap.size D rfl (run_loadVar_row _ _ 46 46 D (0, 0) _ hB3 Try.underlying46 rfl hi46)) rfl HF.out
end Go.Proofs.Ytneiomimjgfbpaa
namespace Go.Proofs.Ytneiomimjgfbpaa
open Go.RowKit Go.PlainAid

theorem enter43 (args : Array Value) (w : World) : (callFunc 44 args).run Try.prog w = .ok (.enter 44 args) w := by simp [go_sem]
/-- The four cells of a reply. -/
def repCells (r : (Int × Int) × Int × Int) : Array Value := #[.int .i64 r.1.1, .int .i64 r.1.2, .int .i64 r.2.1, .int .i64 r.2.2]
def zeroR : Array Value := repCells ((0, 0), 0, 0)
def RepIs (w' : World) (mb : Nat) (r : (Int × Int) × Int × Int) : Prop := Blk w' mb (repCells r) 55
def DecRPost (r : Res ((Int × Int) × Int × Int)) (w : World) (e : Ending) (w' : World) : Prop := Below w.heap.size w w' ∧ match r with
  | .error k => e = .returned (.tuple #[.agg zeroR, .int .i64 (k : Nat), .int .i64 20])
  | .ok (m, _) => e = .returned (.tuple #[.agg (repCells m), .int .i64 0, .int .i64 0])
theorem zeroR_is : (#[Value.int IntKind.i64 0, .int .i64 0, .int .i64 0, .int .i64 0] : Array Value) = zeroR := rfl

set_option maxRecDepth 100000 in
set_option maxHeartbeats 1600000 in
theorem clo43 (L base mb b off n cap : Nat) (bs : List UInt8) (w1 : World) (hS : RSt (L + 1 + 1) (some ⟨b, off, none⟩) n cap bs 0 w1) (hB : Blk w1 mb zeroR 55) (hm' : base ≤ mb) (hmL : mb < L) (hbb : b < base) (hL : L + 4 ≤ w1.heap.size) :
    Calls Try.prog 44 #[RH (L + 1 + 1), .pointer (some ⟨mb, 0, none⟩)] w1 (RClo L base (some ⟨b, off, none⟩) n cap bs w1 (reply.rd bs) fun m w' => RepIs w' mb m) := by
  have hm := reply_r (L + 1 + 1) b off n cap bs 0 mb 0 zeroR 55 (.int .i64 0) (.int .i64 0) (.int .i64 0) (.int .i64 0) w1 hS hB rfl rfl rfl rfl (by omega) (by omega) (by omega)
  unfold RH at *
  go_enter Try.func44, Try.ntmps44
  go_wp2_with fail
  refine hm.mono ?_
  intro e w2 h
  unfold RPostV at h
  rw [List.drop_zero] at h
  cases hr : reply.rd bs with
  | error k =>
    rw [hr] at h
    obtain ⟨rfl, hS2, hst⟩ := h
    rw [Nat.zero_add] at hS2
    exact ⟨rfl, ⟨hst.below (by omega) hm' (by omega), fun i h1 h2 h3 => hst.block i h3 h2 (by omega)⟩, by rw [hr]; exact ⟨rfl, hS2⟩⟩
  | ok v =>
    obtain ⟨m, k⟩ := v
    rw [hr] at h
    obtain ⟨⟨rfl, hM⟩, hS2, hst⟩ := h
    unfold tup
    rw [Nat.zero_add] at hS2
    have hfin : RClo L base (some ⟨b, off, none⟩) n cap bs w1 (reply.rd bs) (fun m w' => RepIs w' mb m) (.returned (.tuple #[])) w2 := by
      refine ⟨⟨hst.below (by omega) hm' (by omega), fun i h1 h2 h3 => hst.block i h3 h2 (by omega)⟩, ?_⟩
      rw [hr]
      exact ⟨⟨_, rfl⟩, hM, hS2⟩
    clear hm hr
    go_wp2
    go_end0
    exact hfin

set_option maxRecDepth 100000 in
set_option maxHeartbeats 3200000 in
theorem decodeRep_any (b off n cap : Nat) (bs : List UInt8) (w : World) (hlen : bs.length = n) (hsrc : From w (some ⟨b, off, none⟩) bs) (hbw : b < w.heap.size) (hsm : n ≤ 140737488355328) (hrm : n ≤ cap) :
    Calls Try.prog 21 #[.slice (some ⟨b, off, none⟩) n cap] w (DecRPost (whole reply bs) w) := by
  have hmf : ∀ (fn : Fn) (first cap : Array Value) (w : World), (Instr.makeFunc fn first cap).run Try.prog w = .ok (.func fn first cap) w := fun _ _ _ _ => rfl
  have hb1 : Below w.heap.size w ((w.alloc (.cells zeroR 55)).alloc (.cells zeroR 55)) := by go_grown
  have n0 : Blk ((w.alloc (.cells zeroR 55)).alloc (.cells zeroR 55)) w.heap.size zeroR 55 := (Below.heap_alloc _ _ _ (by simp)).trans (heap_alloc_new w _)
  have n1 : Blk ((w.alloc (.cells zeroR 55)).alloc (.cells zeroR 55)) (w.heap.size + 1) zeroR 55 := by
    have := heap_alloc_new (w.alloc (.cells zeroR 55)) (.cells zeroR 55)
    rw [World.size_alloc] at this
    exact this
  have hz : ((w.alloc (.cells zeroR 55)).alloc (.cells zeroR 55)).heap.size = w.heap.size + 2 := by simp
  go_enter Try.func21, Try.ntmps21
  go_wp2_with fail
  rw [zeroR_is]
  have hrd := read_any reply (fun m w' => RepIs w' (w.heap.size + 1) m) 44 (w.heap.size + 1) b off n cap #[.pointer (some ⟨w.heap.size + 1, 0, none⟩)] bs ((w.alloc (.cells zeroR 55)).alloc (.cells zeroR 55)) enter43 hlen
    (hsrc.keep (fun b' o' e => by cases e; exact hb1.block _ hbw)) (by omega) hsm hrm (by omega)
    (fun m w' w'' hk hM => by
      exact (hk _ (Blk.lt hM) (by omega)).trans hM)
    (fun w2 hS2 hb2 hz2 => by
      rw [hz] at *
      have hB2 : Blk w2 (w.heap.size + 1) zeroR 55 := (hb2.block _ (by omega)).trans n1
      exact clo43 (w.heap.size + 2) (w.heap.size + 1) (w.heap.size + 1) b off n cap bs w2 hS2 hB2 (by omega) (by omega) (by omega) hz2)
  generalize (w.alloc (.cells zeroR 55)).alloc (.cells zeroR 55) = w1 at *
  refine hrd.mono ?_
  rintro e w2 ⟨hbl, h⟩
  have hbB : Below w.heap.size w w2 := hb1.trans (hbl.mono (by omega))
  have hB0 : Blk w2 w.heap.size zeroR 55 := (hbl.block _ (by omega)).trans n0
  clear hrd n0 n1 hbl hb1
  cases hr : whole reply bs with
  | error k =>
    rw [hr] at h
    subst h
    have hfin : DecRPost (whole reply bs) w (.returned (.tuple #[.agg zeroR, .int .i64 (k : Nat), .int .i64 20])) (w2.setRow w.heap.size zeroR) := by
      refine ⟨hbB.trans ⟨rfl, rfl, rfl, by simp [World.setRow], fun k hk => setRow_other _ _ _ _ (by omega)⟩, ?_⟩
      rw [hr]
    have hB3 := setRow_blk (cs := zeroR) hB0
    have HF : Hid _ := hfin
    clear hfin hr hbB
    go_wp2_with (first | (refine wpList_store_row rfl 55 (.tmp 2) (.tmp 16) rfl w.heap.size zeroR rfl rfl 55 zeroR hB0 (by kernel_rfl) rfl (by kernel_rfl) ?_) | fail)
    go_wp2
    exact bodyPost_ret (results_cell2 Try.results21 _ _ w.heap.size zeroR rfl (run_loadVar_row _ _ 55 55 zeroR (0, 0) _ hB3 Try.underlying55 rfl (by kernel_rfl))) rfl (show DecRPost (whole reply bs) w _ _ from HF.out)
  | ok v =>
    obtain ⟨m, k⟩ := v
    rw [hr] at h
    obtain ⟨rfl, hM⟩ := h
    replace hM : Blk w2 (w.heap.size + 1) (repCells m) 55 := hM
    have hall : (repCells m).all (·.oneCell') = true := by simp [repCells, Value.oneCell']
    have hfin : DecRPost (whole reply bs) w (.returned (.tuple #[.agg (repCells m), .int .i64 0, .int .i64 0])) (w2.setRow w.heap.size (repCells m)) := by
      refine ⟨hbB.trans ⟨rfl, rfl, rfl, by simp [World.setRow], fun k hk => setRow_other _ _ _ _ (by omega)⟩, ?_⟩
      rw [hr]
    have hB3 := setRow_blk (cs := repCells m) hB0
    have HF : Hid _ := hfin
    clear hfin hr hbB
    generalize hD : repCells m = D at *
    have hsz : D.size = 4 := by rw [← hD]; rfl
    have hi55 : (Try.prog.info? 55).map (·.size) = some D.size := by rw [hsz]; kernel_rfl
    clear hD
    go_wp2_with (first | (refine wpList_load_row rfl 55 (.tmp 5) rfl (w.heap.size + 1) rfl 55 D (0, 0) _ hM Try.underlying55 rfl hi55 ?_) | (refine wpList_store_row rfl 55 (.tmp 2) (.tmp 19) rfl w.heap.size D rfl rfl 55 zeroR hB0 hi55 (by rw [hsz]; rfl) hall ?_) | fail)
    go_wp2
    exact bodyPost_ret (results_cell2 Try.results21 _ _ w.heap.size D rfl (run_loadVar_row _ _ 55 55 D (0, 0) _ hB3 Try.underlying55 rfl hi55)) rfl (show DecRPost (whole reply bs) w _ _ from HF.out)
end Go.Proofs.Ytneiomimjgfbpaa
