import Derived.Test.YtfgnlfemckdfnaaRRead
import Derived.Test.YtfgnlfemckdfnaaRMsg
import Derived.Test.YtfgnlfemckdfnaaJR
import Derived.Test.YtfgnlfemckdfnaaJC
namespace Go.Proofs.Ytfgnlfemckdfnaa
open Go.RowKit Go.PlainAid
theorem enter31 (args : Array Value) (w : World) : (callFunc 31 args).run Try.prog w = .ok (.enter 31 args) w := by simp [go_sem]
theorem enter37 (args : Array Value) (w : World) : (callFunc 37 args).run Try.prog w = .ok (.enter 37 args) w := by simp [go_sem]
theorem RStep.below {hb mb base : Nat} {w w' : World} (h : RStep hb mb w w') (h1 : base ≤ hb) (h2 : base ≤ mb) (h3 : base ≤ w.heap.size) : Below base w w' :=
  ⟨h.os, h.tape, h.output, h.size, fun k hk => h.block k (by omega) (by omega) (by omega)⟩
set_option maxRecDepth 100000 in
set_option maxHeartbeats 1600000 in
theorem clo31 (L base mb b off n cap : Nat) (bs : List UInt8) (w1 : World) (hS : RSt (L + 1 + 1) (some ⟨b, off, none⟩) n cap bs 0 w1) (hB : Blk w1 mb zeroC 35) (hm' : base ≤ mb) (hmL : mb < L) (hbb : b < base) (hL : L + 4 ≤ w1.heap.size) :
    Calls Try.prog 31 #[RH (L + 1 + 1), .pointer (some ⟨mb, 0, none⟩)] w1 (RClo L base (some ⟨b, off, none⟩) n cap bs w1 (message.rd bs) fun m w' => MsgIs w' mb (L + 4) m) := by
  have hm := message_r (L + 1 + 1) b off n cap bs 0 mb w1 hS hB (by omega) (by omega) (by omega)
  unfold RH at *
  go_enter Try.func31, Try.ntmps31
  go_wp2_with fail
  refine hm.mono ?_
  intro e w2 h
  unfold RPostV at h
  rw [List.drop_zero] at h
  cases hr : message.rd bs with
  | error k =>
    rw [hr] at h
    obtain ⟨rfl, hS2, hst⟩ := h
    rw [Nat.zero_add] at hS2
    exact ⟨rfl, ⟨hst.below (by omega) hm' (by omega), fun i h1 h2 h3 => hst.block i h3 h2 (by omega)⟩, by rw [hr]; exact ⟨rfl, hS2⟩⟩
  | ok v =>
    obtain ⟨m, k⟩ := v
    rw [hr] at h
    obtain ⟨⟨⟨hh, rfl⟩, hM⟩, hS2, hst⟩ := h
    rw [Nat.zero_add] at hS2
    have hfin : RClo L base (some ⟨b, off, none⟩) n cap bs w1 (message.rd bs) (fun m w' => MsgIs w' mb (L + 4) m) (.returned (.tuple #[])) w2 := by
      refine ⟨⟨hst.below (by omega) hm' (by omega), fun i h1 h2 h3 => hst.block i h3 h2 (by omega)⟩, ?_⟩
      rw [hr]
      obtain ⟨ao, c, h1, h2⟩ := hM
      exact ⟨⟨_, rfl⟩, ⟨ao, c, h1, h2.mono hL⟩, hS2⟩
    clear hm hr
    go_wp2
    go_end0
    exact hfin
def DecPost (r : Res Msg) (w : World) (e : Ending) (w' : World) : Prop := Below w.heap.size w w' ∧ match r with
  | .error k => e = .returned (.tuple #[.agg zeroC, .int .i64 (k : Nat), .int .i64 20])
  | .ok (m, _) => ∃ ao c, e = .returned (.tuple #[.agg (msgCells m (.slice ao m.views.length c)), .int .i64 0, .int .i64 0]) ∧ VRow w' w.heap.size ao c m.views
theorem VRow.stable {w w' : World} {base : Nat} {ao : Option Addr} {c : Nat} {l : List View} (h : VRow w base ao c l) (hk : ∀ k, base ≤ k → k < w.heap.size → w'.heap[k]? = w.heap[k]?) : VRow w' base ao c l :=
  h.imp id fun ⟨vb, h1, h2, h3, h4, h5⟩ => ⟨vb, h1, h2, h3, h4, (hk vb h2 h5.lt).trans h5⟩
theorem setRow_blk {w : World} {g : Nat} {old cs : Array Value} {T : TypeId} (h : Blk w g old T) : Blk (w.setRow g cs) g cs T := setRow_heap w g old cs T _ h
theorem results_cell2 {fn : Func} {p x y : Tmp} {ty : TypeId} (h : fn.results = #[.cell p ty, .tmp x, .tmp y]) (tmps : Array Value) (w : World) (g : Nat) (cs : Array Value)
    (hp : tmps.getD p undef = .pointer (some ⟨g, 0, none⟩)) (hl : (loadVar ty ⟨g, 0, none⟩).run Try.prog w = .ok (.agg cs) w) :
    (results fn tmps).run Try.prog w = .ok (.tuple #[.agg cs, tmps.getD x undef, tmps.getD y undef]) w := by
  have hp' : tmps[p]?.getD undef = .pointer (some ⟨g, 0, none⟩) := by simpa using hp
  simp [results, h, hp', asAddr, hl]
theorem zero_is : (#[Value.int IntKind.i64 0, .string ⟨#[]⟩, .int .i64 0, .int .i64 0, .int .i64 0, .int .i64 0, .int .i64 0, .int .i64 0, .int .i64 0, .int .i64 0, .int .i64 0, .int .i64 0, .int .i64 0, .int .i64 0, .string ⟨#[]⟩, .int .i64 0, .int .i64 0, .int .i64 0, .int .i64 0, .slice none 0 0] : Array Value) = zeroC := rfl
set_option maxRecDepth 100000 in
set_option maxHeartbeats 3200000 in
theorem decode_any (b off n cap : Nat) (bs : List UInt8) (w : World) (hlen : bs.length = n) (hsrc : From w (some ⟨b, off, none⟩) bs) (hbw : b < w.heap.size) (hsm : n ≤ 140737488355328) (hrm : n ≤ cap) :
    Calls Try.prog 10 #[.slice (some ⟨b, off, none⟩) n cap] w (DecPost (whole message bs) w) := by
  have hmf : ∀ (fn : Fn) (first cap : Array Value) (w : World), (Instr.makeFunc fn first cap).run Try.prog w = .ok (.func fn first cap) w := fun _ _ _ _ => rfl
  have hb1 : Below w.heap.size w ((w.alloc (.cells zeroC 35)).alloc (.cells zeroC 35)) := by go_grown
  have n0 : Blk ((w.alloc (.cells zeroC 35)).alloc (.cells zeroC 35)) w.heap.size zeroC 35 := (Below.heap_alloc _ _ _ (by simp)).trans (heap_alloc_new w _)
  have n1 : Blk ((w.alloc (.cells zeroC 35)).alloc (.cells zeroC 35)) (w.heap.size + 1) zeroC 35 := by
    have := heap_alloc_new (w.alloc (.cells zeroC 35)) (.cells zeroC 35)
    rw [World.size_alloc] at this
    exact this
  have hz : ((w.alloc (.cells zeroC 35)).alloc (.cells zeroC 35)).heap.size = w.heap.size + 2 := by simp
  go_enter Try.func10, Try.ntmps10
  go_wp2_with fail
  rw [zero_is]
  have hrd := read_any message (fun m w' => MsgIs w' (w.heap.size + 1) (w.heap.size + 6) m) 31 (w.heap.size + 1) b off n cap #[.pointer (some ⟨w.heap.size + 1, 0, none⟩)] bs ((w.alloc (.cells zeroC 35)).alloc (.cells zeroC 35)) enter31 hlen
    (hsrc.keep (fun b' o' e => by cases e; exact hb1.block _ hbw)) (by omega) hsm hrm (by omega)
    (fun m w' w'' hk hM => by
      obtain ⟨ao, c, h1, h2⟩ := hM
      exact ⟨ao, c, (hk _ h1.lt (by omega)).trans h1, h2.stable fun k h3 h4 => hk k h4 (by omega)⟩)
    (fun w2 hS2 hb2 hz2 => by
      rw [hz] at *
      have hB2 : Blk w2 (w.heap.size + 1) zeroC 35 := (hb2.block _ (by omega)).trans n1
      exact clo31 (w.heap.size + 2) (w.heap.size + 1) (w.heap.size + 1) b off n cap bs w2 hS2 hB2 (by omega) (by omega) (by omega) hz2)
  generalize (w.alloc (.cells zeroC 35)).alloc (.cells zeroC 35) = w1 at *
  refine hrd.mono ?_
  rintro e w2 ⟨hbl, h⟩
  have hbB : Below w.heap.size w w2 := hb1.trans (hbl.mono (by omega))
  have hB0 : Blk w2 w.heap.size zeroC 35 := (hbl.block _ (by omega)).trans n0
  clear hrd n0 n1 hbl hb1
  cases hr : whole message bs with
  | error k =>
    rw [hr] at h
    subst h
    have hfin : DecPost (whole message bs) w (.returned (.tuple #[.agg zeroC, .int .i64 (k : Nat), .int .i64 20])) (w2.setRow w.heap.size zeroC) := by
      refine ⟨hbB.trans ⟨rfl, rfl, rfl, by simp [World.setRow], fun k hk => setRow_other _ _ _ _ (by omega)⟩, ?_⟩
      rw [hr]
    have hB3 := setRow_blk (cs := zeroC) hB0
    have HF : Hid _ := hfin
    clear hfin hr hbB
    go_wp2_with (first | (refine wpList_store_row rfl 35 (.tmp 2) (.tmp 16) rfl w.heap.size zeroC rfl rfl 35 zeroC hB0 (by kernel_rfl) rfl (by kernel_rfl) ?_) | fail)
    go_wp2
    exact bodyPost_ret (results_cell2 Try.results10 _ _ w.heap.size zeroC rfl (run_loadVar_row _ _ 35 35 zeroC (0, 0) _ hB3 Try.underlying35 rfl (by kernel_rfl))) rfl HF.out
  | ok v =>
    obtain ⟨m, k⟩ := v
    rw [hr] at h
    obtain ⟨rfl, ao, c, hM, hV⟩ := h
    have hall : (msgCells m (.slice ao m.views.length c)).all (·.oneCell') = true := by simp [msgCells, Value.oneCell', Str]
    have hfin : DecPost (whole message bs) w (.returned (.tuple #[.agg (msgCells m (.slice ao m.views.length c)), .int .i64 0, .int .i64 0])) (w2.setRow w.heap.size (msgCells m (.slice ao m.views.length c))) := by
      refine ⟨hbB.trans ⟨rfl, rfl, rfl, by simp [World.setRow], fun k hk => setRow_other _ _ _ _ (by omega)⟩, ?_⟩
      rw [hr]
      exact ⟨ao, c, rfl, (hV.stable fun k h3 _ => setRow_other _ _ _ _ (by omega)).mono (by omega)⟩
    have hB3 := setRow_blk (cs := msgCells m (.slice ao m.views.length c)) hB0
    have HF : Hid _ := hfin
    have HV : Hid _ := hV
    clear hfin hr hbB hV
    generalize hD : msgCells m (.slice ao m.views.length c) = D at *
    have hsz : D.size = 20 := by rw [← hD]; rfl
    have hi35 : (Try.prog.info? 35).map (·.size) = some D.size := by rw [hsz]; kernel_rfl
    clear hD
    go_wp2_with (first | (refine wpList_load_row rfl 35 (.tmp 5) rfl (w.heap.size + 1) rfl 35 D (0, 0) _ hM Try.underlying35 rfl hi35 ?_) | (refine wpList_store_row rfl 35 (.tmp 2) (.tmp 19) rfl w.heap.size D rfl rfl 35 zeroC hB0 hi35 (by rw [hsz]; rfl) hall ?_) | fail)
    go_wp2
    exact bodyPost_ret (results_cell2 Try.results10 _ _ w.heap.size D rfl (run_loadVar_row _ _ 35 35 D (0, 0) _ hB3 Try.underlying35 rfl hi35)) rfl HF.out
end Go.Proofs.Ytfgnlfemckdfnaa
namespace Go.Proofs.Ytfgnlfemckdfnaa
open Go.RowKit Go.PlainAid
def zeroS : Array Value := segCells 0 0 0 0 (.slice none 0 0)
def SegIs (w' : World) (mb base : Nat) (s : Seg) : Prop := ∃ ao c, Blk w' mb (segCells s.src s.dst s.seq s.ack (.slice ao s.data.length c)) 46 ∧ w'.ownsRow base 5 1 (.slice ao s.data.length c) s.data.length (s.data.map B)
theorem own_mono {w : World} {base base' : Nat} {v : Value} {n : Nat} {xs : List Value} (h : w.ownsRow base 5 1 v n xs) (hb : base' ≤ base) : w.ownsRow base' 5 1 v n xs := by
  refine ⟨h.1, h.2.imp id ?_⟩
  rintro ⟨g, c', cur, e1, e2, e3⟩
  exact ⟨g, c', cur, e1, by omega, e3⟩
theorem own_stable {w w' : World} {base : Nat} {v : Value} {n : Nat} {xs : List Value} (h : w.ownsRow base 5 1 v n xs) (hk : ∀ k, base ≤ k → k < w.heap.size → w'.heap[k]? = w.heap[k]?) : w'.ownsRow base 5 1 v n xs := by
  refine ⟨h.1, h.2.imp id ?_⟩
  rintro ⟨g, c', cur, e1, e2, e3, e4⟩
  exact ⟨g, c', cur, e1, e2, (hk g e2 (Array.getElem?_eq_some_iff.1 e3).1).trans e3, e4⟩
def DecSPost (r : Res Seg) (w : World) (e : Ending) (w' : World) : Prop := Below w.heap.size w w' ∧ match r with
  | .error k => e = .returned (.tuple #[.agg zeroS, .int .i64 (k : Nat), .int .i64 20])
  | .ok (m, _) => ∃ ao c, e = .returned (.tuple #[.agg (segCells m.src m.dst m.seq m.ack (.slice ao m.data.length c)), .int .i64 0, .int .i64 0]) ∧ w'.ownsRow w.heap.size 5 1 (.slice ao m.data.length c) m.data.length (m.data.map B)
theorem zeroS_is : (#[Value.int IntKind.i64 0, .int .i64 0, .int .i64 0, .int .i64 0, .slice none 0 0] : Array Value) = zeroS := rfl
set_option maxRecDepth 100000 in
set_option maxHeartbeats 1600000 in
theorem clo37 (L base mb b off n cap : Nat) (bs : List UInt8) (w1 : World) (hS : RSt (L + 1 + 1) (some ⟨b, off, none⟩) n cap bs 0 w1) (hB : Blk w1 mb zeroS 46) (hm' : base ≤ mb) (hmL : mb < L) (hbb : b < base) (hL : L + 4 ≤ w1.heap.size) :
    Calls Try.prog 37 #[RH (L + 1 + 1), .pointer (some ⟨mb, 0, none⟩)] w1 (RClo L base (some ⟨b, off, none⟩) n cap bs w1 (segment.rd bs) fun m w' => SegIs w' mb (L + 4) m) := by
  have hm := segment_r (L + 1 + 1) b off n cap bs 0 mb w1 hS hB (by omega) (by omega) (by omega)
  unfold RH at *
  go_enter Try.func37, Try.ntmps37
  go_wp2_with fail
  refine hm.mono ?_
  intro e w2 h
  unfold RPostV at h
  rw [List.drop_zero] at h
  cases hr : segment.rd bs with
  | error k =>
    rw [hr] at h
    obtain ⟨rfl, hS2, hst⟩ := h
    rw [Nat.zero_add] at hS2
    exact ⟨rfl, ⟨hst.below (by omega) hm' (by omega), fun i h1 h2 h3 => hst.block i h3 h2 (by omega)⟩, by rw [hr]; exact ⟨rfl, hS2⟩⟩
  | ok v =>
    obtain ⟨m, k⟩ := v
    rw [hr] at h
    obtain ⟨⟨rfl, hM⟩, hS2, hst⟩ := h
    unfold tup
    rw [Nat.zero_add] at hS2
    have hfin : RClo L base (some ⟨b, off, none⟩) n cap bs w1 (segment.rd bs) (fun m w' => SegIs w' mb (L + 4) m) (.returned (.tuple #[])) w2 := by
      refine ⟨⟨hst.below (by omega) hm' (by omega), fun i h1 h2 h3 => hst.block i h3 h2 (by omega)⟩, ?_⟩
      rw [hr]
      obtain ⟨ao, c, h1, h2⟩ := hM
      exact ⟨⟨_, rfl⟩, ⟨ao, c, h1, own_mono h2 hL⟩, hS2⟩
    clear hm hr
    go_wp2
    go_end0
    exact hfin
set_option maxRecDepth 100000 in
set_option maxHeartbeats 3200000 in
theorem decodeSeg_any (b off n cap : Nat) (bs : List UInt8) (w : World) (hlen : bs.length = n) (hsrc : From w (some ⟨b, off, none⟩) bs) (hbw : b < w.heap.size) (hsm : n ≤ 140737488355328) (hrm : n ≤ cap) :
    Calls Try.prog 16 #[.slice (some ⟨b, off, none⟩) n cap] w (DecSPost (whole segment bs) w) := by
  have hmf : ∀ (fn : Fn) (first cap : Array Value) (w : World), (Instr.makeFunc fn first cap).run Try.prog w = .ok (.func fn first cap) w := fun _ _ _ _ => rfl
  have hb1 : Below w.heap.size w ((w.alloc (.cells zeroS 46)).alloc (.cells zeroS 46)) := by go_grown
  have n0 : Blk ((w.alloc (.cells zeroS 46)).alloc (.cells zeroS 46)) w.heap.size zeroS 46 := (Below.heap_alloc _ _ _ (by simp)).trans (heap_alloc_new w _)
  have n1 : Blk ((w.alloc (.cells zeroS 46)).alloc (.cells zeroS 46)) (w.heap.size + 1) zeroS 46 := by
    have := heap_alloc_new (w.alloc (.cells zeroS 46)) (.cells zeroS 46)
    rw [World.size_alloc] at this
    exact this
  have hz : ((w.alloc (.cells zeroS 46)).alloc (.cells zeroS 46)).heap.size = w.heap.size + 2 := by simp
  go_enter Try.func16, Try.ntmps16
  go_wp2_with fail
  rw [zeroS_is]
  have hrd := read_any segment (fun m w' => SegIs w' (w.heap.size + 1) (w.heap.size + 6) m) 37 (w.heap.size + 1) b off n cap #[.pointer (some ⟨w.heap.size + 1, 0, none⟩)] bs ((w.alloc (.cells zeroS 46)).alloc (.cells zeroS 46)) enter37 hlen
    (hsrc.keep (fun b' o' e => by cases e; exact hb1.block _ hbw)) (by omega) hsm hrm (by omega)
    (fun m w' w'' hk hM => by
      obtain ⟨ao, c, h1, h2⟩ := hM
      exact ⟨ao, c, (hk _ h1.lt (by omega)).trans h1, own_stable h2 fun k h3 h4 => hk k h4 (by omega)⟩)
    (fun w2 hS2 hb2 hz2 => by
      rw [hz] at *
      have hB2 : Blk w2 (w.heap.size + 1) zeroS 46 := (hb2.block _ (by omega)).trans n1
      exact clo37 (w.heap.size + 2) (w.heap.size + 1) (w.heap.size + 1) b off n cap bs w2 hS2 hB2 (by omega) (by omega) (by omega) hz2)
  generalize (w.alloc (.cells zeroS 46)).alloc (.cells zeroS 46) = w1 at *
  refine hrd.mono ?_
  rintro e w2 ⟨hbl, h⟩
  have hbB : Below w.heap.size w w2 := hb1.trans (hbl.mono (by omega))
  have hB0 : Blk w2 w.heap.size zeroS 46 := (hbl.block _ (by omega)).trans n0
  clear hrd n0 n1 hbl hb1
  cases hr : whole segment bs with
  | error k =>
    rw [hr] at h
    subst h
    have hfin : DecSPost (whole segment bs) w (.returned (.tuple #[.agg zeroS, .int .i64 (k : Nat), .int .i64 20])) (w2.setRow w.heap.size zeroS) := by
      refine ⟨hbB.trans ⟨rfl, rfl, rfl, by simp [World.setRow], fun k hk => setRow_other _ _ _ _ (by omega)⟩, ?_⟩
      rw [hr]
    have hB3 := setRow_blk (cs := zeroS) hB0
    have HF : Hid _ := hfin
    clear hfin hr hbB
    go_wp2_with (first | (refine wpList_store_row rfl 46 (.tmp 2) (.tmp 16) rfl w.heap.size zeroS rfl rfl 46 zeroS hB0 (by kernel_rfl) rfl (by kernel_rfl) ?_) | fail)
    go_wp2
    exact bodyPost_ret (results_cell2 Try.results16 _ _ w.heap.size zeroS rfl (run_loadVar_row _ _ 46 46 zeroS (0, 0) _ hB3 Try.underlying46 rfl (by kernel_rfl))) rfl HF.out
  | ok v =>
    obtain ⟨m, k⟩ := v
    rw [hr] at h
    obtain ⟨rfl, ao, c, hM, hV⟩ := h
    have hall : (segCells m.src m.dst m.seq m.ack (.slice ao m.data.length c)).all (·.oneCell') = true := by simp [segCells, Value.oneCell']
    have hfin : DecSPost (whole segment bs) w (.returned (.tuple #[.agg (segCells m.src m.dst m.seq m.ack (.slice ao m.data.length c)), .int .i64 0, .int .i64 0])) (w2.setRow w.heap.size (segCells m.src m.dst m.seq m.ack (.slice ao m.data.length c))) := by
      refine ⟨hbB.trans ⟨rfl, rfl, rfl, by simp [World.setRow], fun k hk => setRow_other _ _ _ _ (by omega)⟩, ?_⟩
      rw [hr]
      exact ⟨ao, c, rfl, own_mono (own_stable hV fun k h3 _ => setRow_other _ _ _ _ (by omega)) (by omega)⟩
    have hB3 := setRow_blk (cs := segCells m.src m.dst m.seq m.ack (.slice ao m.data.length c)) hB0
    have HF : Hid _ := hfin
    have HV : Hid _ := hV
    clear hfin hr hbB hV
    generalize hD : segCells m.src m.dst m.seq m.ack (.slice ao m.data.length c) = D at *
    have hsz : D.size = 5 := by rw [← hD]; rfl
    have hi46 : (Try.prog.info? 46).map (·.size) = some D.size := by rw [hsz]; kernel_rfl
    clear hD
    go_wp2_with (first | (refine wpList_load_row rfl 46 (.tmp 5) rfl (w.heap.size + 1) rfl 46 D (0, 0) _ hM Try.underlying46 rfl hi46 ?_) | (refine wpList_store_row rfl 46 (.tmp 2) (.tmp 19) rfl w.heap.size D rfl rfl 46 zeroS hB0 hi46 (by rw [hsz]; rfl) hall ?_) | fail)
    go_wp2
    exact bodyPost_ret (results_cell2 Try.results16 _ _ w.heap.size D rfl (run_loadVar_row _ _ 46 46 D (0, 0) _ hB3 Try.underlying46 rfl hi46)) rfl HF.out
end Go.Proofs.Ytfgnlfemckdfnaa
namespace Go.Proofs.Ytfgnlfemckdfnaa
open Go.RowKit Go.PlainAid
def repCells (r : (Int × Int) × Int × Int) : Array Value := #[.int .i64 r.1.1, .int .i64 r.1.2, .int .i64 r.2.1, .int .i64 r.2.2]
end Go.Proofs.Ytfgnlfemckdfnaa
namespace Go.Proofs.Ytfgnlfemckdfnaa
open Go.RowKit Go.PlainAid
theorem enter40 (args : Array Value) (w : World) : (callFunc 40 args).run Try.prog w = .ok (.enter 40 args) w := by simp [go_sem]
def callCells (c : Int × Int) : Array Value := #[.int .i64 c.1, .int .i64 c.2]
def opCells (o : Int × List UInt8 × Int × Int) : Array Value := #[.int .i64 o.1, Str o.2.1, .int .i64 o.2.2.1, .int .i64 o.2.2.2]
def zeroQ : Array Value := callCells (0, 0)
def zeroO : Array Value := opCells (0, [], 0, 0)
def ReqPost (hb m1 m2 : Nat) (ao : Option Addr) (n cap : Nat) (bs : List UInt8) (w : World) (r : Res ((Int × Int) × Int × List UInt8 × Int × Int)) (e : Ending) (w' : World) : Prop :=
  (w'.os = w.os ∧ w'.tape = w.tape ∧ w'.output = w.output ∧ w.heap.size ≤ w'.heap.size ∧ ∀ k, k < w.heap.size → k ≠ hb → k ≠ m1 → k ≠ m2 → w'.heap[k]? = w.heap[k]?) ∧ match r with
  | .error k => e = refused ∧ RSt hb ao n cap bs k w'
  | .ok (x, k) => e = tup ∧ (Blk w' m1 (callCells x.1) 29 ∧ Blk w' m2 (opCells x.2) 31) ∧ RSt hb ao n cap bs k w'
set_option maxRecDepth 100000 in
set_option maxHeartbeats 1600000 in
theorem request_r (hb b off n cap : Nat) (bs : List UInt8) (m1 m2 : Nat) (w : World) (hS : RSt hb (some ⟨b, off, none⟩) n cap bs 0 w)
    (hB1 : Blk w m1 zeroQ 29) (hB2 : Blk w m2 zeroO 31) (h12 : m1 ≠ m2) (hne1 : m1 ≠ hb) (hne2 : m2 ≠ hb) (hb1 : b ≠ m1) (hb2 : b ≠ m2) (hbw : b < w.heap.size) :
    Calls Try.prog 41 #[RH hb, .pointer (some ⟨m1, 0, none⟩), .pointer (some ⟨m2, 0, none⟩)] w (ReqPost hb m1 m2 (some ⟨b, off, none⟩) n cap bs w (request.rd bs)) := by
  have hc := call_r hb b off n cap bs 0 m1 0 zeroQ 29 (.int .i64 0) (.int .i64 0) w hS hB1 rfl rfl hne1 hb1 hbw
  have hl2 := hB2.lt
  unfold RH at *
  go_enter Try.func41, Try.ntmps41
  go_wp2_with fail
  refine hc.mono ?_
  intro e1 w1 h1
  unfold RPostV at h1
  rw [List.drop_zero] at h1
  cases hr1 : call.rd bs with
  | error k =>
    have hn : request.rd bs = .error k := by simp only [request, pair, Codec.bind, hr1]
    rw [hr1] at h1
    obtain ⟨rfl, hS1, hst1⟩ := h1
    rw [Nat.zero_add] at hS1
    refine ⟨rfl, ⟨hst1.os, hst1.tape, hst1.output, hst1.size, fun k h1 h2 h3 _ => hst1.block k h1 h2 h3⟩, ?_⟩
    rw [hn]
    exact ⟨rfl, hS1⟩
  | ok v =>
    obtain ⟨x, k⟩ := v
    rw [hr1] at h1
    obtain ⟨⟨rfl, hC1⟩, hS1, hst1⟩ := h1
    rw [Nat.zero_add] at hS1
    have hO1 : Blk w1 m2 zeroO 31 := (hst1.block m2 hl2 hne2 (by omega)).trans hB2
    have ho := op_r hb b off n cap bs k m2 0 zeroO 31 (.int .i64 0) [] (.int .i64 0) (.int .i64 0) w1 hS1 hO1 rfl rfl rfl rfl hne2 hb2 (Nat.lt_of_lt_of_le hbw hst1.size)
    have hsz := hst1.size
    have hl1 := hC1.lt
    clear hc
    unfold tup
    unfold RH at ho
    go_wp2_with fail
    refine ho.mono ?_
    intro e2 w2 h2
    unfold RPostV at h2
    cases hr2 : op.rd (bs.drop k) with
    | error j =>
      have hn : request.rd bs = .error (k + j) := by simp only [request, pair, Codec.bind, hr1, hr2]
      rw [hr2] at h2
      obtain ⟨rfl, hS2, hst2⟩ := h2
      refine ⟨rfl, ⟨hst2.os.trans hst1.os, hst2.tape.trans hst1.tape, hst2.output.trans hst1.output, Nat.le_trans hst1.size hst2.size, fun i h1 h2 h3 h4 => (hst2.block i (by omega) h2 h4).trans (hst1.block i h1 h2 h3)⟩, ?_⟩
      rw [hn]
      exact ⟨rfl, hS2⟩
    | ok v =>
      obtain ⟨y, j⟩ := v
      have hn : request.rd bs = .ok ((x, y), k + j) := by simp only [request, pair, Codec.bind, hr1, hr2]
      rw [hr2] at h2
      obtain ⟨⟨rfl, hC2⟩, hS2, hst2⟩ := h2
      have hC1' : Blk w2 m1 (callCells x) 29 := (hst2.block m1 hl1 hne1 h12).trans hC1
      have hfin : ReqPost hb m1 m2 (some ⟨b, off, none⟩) n cap bs w (request.rd bs) tup w2 := by
        refine ⟨⟨hst2.os.trans hst1.os, hst2.tape.trans hst1.tape, hst2.output.trans hst1.output, Nat.le_trans hst1.size hst2.size, fun i h1 h2 h3 h4 => (hst2.block i (by omega) h2 h4).trans (hst1.block i h1 h2 h3)⟩, ?_⟩
        rw [hn]
        exact ⟨rfl, ⟨hC1', hC2⟩, hS2⟩
      unfold tup at *
      clear ho hr1 hr2 hn
      go_wp2
      go_end0
      exact hfin
set_option maxRecDepth 100000 in
set_option maxHeartbeats 1600000 in
theorem clo40 (L base m1 m2 b off n cap : Nat) (bs : List UInt8) (w1 : World) (hS : RSt (L + 1 + 1) (some ⟨b, off, none⟩) n cap bs 0 w1) (hB1 : Blk w1 m1 zeroQ 29) (hB2 : Blk w1 m2 zeroO 31) (h12 : m1 ≠ m2) (hm1 : base ≤ m1) (hm2 : base ≤ m2) (hmL1 : m1 < L) (hmL2 : m2 < L) (hbb : b < base) (hL : L + 4 ≤ w1.heap.size) :
    Calls Try.prog 40 #[RH (L + 1 + 1), .pointer (some ⟨m1, 0, none⟩), .pointer (some ⟨m2, 0, none⟩)] w1 (RClo L base (some ⟨b, off, none⟩) n cap bs w1 (request.rd bs) fun x w' => Blk w' m1 (callCells x.1) 29 ∧ Blk w' m2 (opCells x.2) 31) := by
  have hq := request_r (L + 1 + 1) b off n cap bs m1 m2 w1 hS hB1 hB2 h12 (by omega) (by omega) (by omega) (by omega) (by omega)
  unfold RH at *
  go_enter Try.func40, Try.ntmps40
  go_wp2_with fail
  refine hq.mono ?_
  rintro e w2 ⟨⟨g1, g2, g3, g4, g5⟩, h⟩
  have hfr : Below base w1 w2 ∧ ∀ k, L ≤ k → k ≠ L + 1 + 1 → k < w1.heap.size → w2.heap[k]? = w1.heap[k]? :=
    ⟨⟨g1, g2, g3, g4, fun k hk => g5 k (by omega) (by omega) (by omega) (by omega)⟩, fun k h1 h2 h3 => g5 k h3 h2 (by omega) (by omega)⟩
  clear g1 g2 g3 g4 g5 hq
  cases hr : request.rd bs with
  | error k =>
    rw [hr] at h
    obtain ⟨rfl, hS2⟩ := h
    exact ⟨rfl, hfr, by rw [hr]; exact ⟨rfl, hS2⟩⟩
  | ok v =>
    obtain ⟨x, k⟩ := v
    rw [hr] at h
    obtain ⟨rfl, hM, hS2⟩ := h
    have hfin : RClo L base (some ⟨b, off, none⟩) n cap bs w1 (request.rd bs) (fun x w' => Blk w' m1 (callCells x.1) 29 ∧ Blk w' m2 (opCells x.2) 31) (.returned (.tuple #[])) w2 := by
      refine ⟨hfr, ?_⟩
      rw [hr]
      exact ⟨⟨_, rfl⟩, hM, hS2⟩
    clear hr hfr
    unfold tup
    go_wp2
    go_end0
    exact hfin
def DecQPost (r : Res ((Int × Int) × Int × List UInt8 × Int × Int)) (w : World) (e : Ending) (w' : World) : Prop := Below w.heap.size w w' ∧ match r with
  | .error k => e = .returned (.tuple #[.agg zeroQ, .agg zeroO, .int .i64 (k : Nat), .int .i64 20])
  | .ok (x, _) => e = .returned (.tuple #[.agg (callCells x.1), .agg (opCells x.2), .int .i64 0, .int .i64 0])
theorem zeroQ_is : (#[Value.int IntKind.i64 0, .int .i64 0] : Array Value) = zeroQ := rfl
theorem zeroO_is : (#[Value.int IntKind.i64 0, .string ⟨#[]⟩, .int .i64 0, .int .i64 0] : Array Value) = zeroO := rfl
theorem results_cell22 {fn : Func} {p q x y : Tmp} {ty ty2 : TypeId} (h : fn.results = #[.cell p ty, .cell q ty2, .tmp x, .tmp y]) (tmps : Array Value) (w : World) (g g2 : Nat) (cs cs2 : Array Value)
    (hp : tmps.getD p undef = .pointer (some ⟨g, 0, none⟩)) (hl : (loadVar ty ⟨g, 0, none⟩).run Try.prog w = .ok (.agg cs) w)
    (hq : tmps.getD q undef = .pointer (some ⟨g2, 0, none⟩)) (hl2 : (loadVar ty2 ⟨g2, 0, none⟩).run Try.prog w = .ok (.agg cs2) w) :
    (results fn tmps).run Try.prog w = .ok (.tuple #[.agg cs, .agg cs2, tmps.getD x undef, tmps.getD y undef]) w := by
  have hp' : tmps[p]?.getD undef = .pointer (some ⟨g, 0, none⟩) := by simpa using hp
  have hq' : tmps[q]?.getD undef = .pointer (some ⟨g2, 0, none⟩) := by simpa using hq
  simp [results, h, hp', hq', asAddr, hl, hl2]
theorem Blk.other {w : World} {mb : Nat} {C : Array Value} {T : TypeId} (h : Blk w mb C T) (g j : Nat) (v : Value) (hne : mb ≠ g) : Blk (w.setCell ⟨g, j, none⟩ v) mb C T := (Below.heap_setCell _ _ _ _ hne).trans h
theorem laid6 (w : World) (L : Nat) (c i o : Int) (nm : List UInt8) (oa ob : Int) (h0 : Blk w L zeroQ 29) (h1 : Blk w (L + 1) zeroO 31) :
    Blk ((((((w.setCell ⟨L, 0, none⟩ (.int .i64 c)).setCell ⟨L, 1, none⟩ (.int .i64 i)).setCell ⟨L + 1, 0, none⟩ (.int .i64 o)).setCell ⟨L + 1, 1, none⟩ (.string ⟨nm.toArray⟩)).setCell ⟨L + 1, 2, none⟩ (.int .i64 oa)).setCell ⟨L + 1, 3, none⟩ (.int .i64 ob)) L (callCells (c, i)) 29 ∧
    Blk ((((((w.setCell ⟨L, 0, none⟩ (.int .i64 c)).setCell ⟨L, 1, none⟩ (.int .i64 i)).setCell ⟨L + 1, 0, none⟩ (.int .i64 o)).setCell ⟨L + 1, 1, none⟩ (.string ⟨nm.toArray⟩)).setCell ⟨L + 1, 2, none⟩ (.int .i64 oa)).setCell ⟨L + 1, 3, none⟩ (.int .i64 ob)) (L + 1) (opCells (o, nm, oa, ob)) 31 ∧
    ∀ w0, Below L w0 w → Below L w0 ((((((w.setCell ⟨L, 0, none⟩ (.int .i64 c)).setCell ⟨L, 1, none⟩ (.int .i64 i)).setCell ⟨L + 1, 0, none⟩ (.int .i64 o)).setCell ⟨L + 1, 1, none⟩ (.string ⟨nm.toArray⟩)).setCell ⟨L + 1, 2, none⟩ (.int .i64 oa)).setCell ⟨L + 1, 3, none⟩ (.int .i64 ob)) :=
  ⟨((((((h0.set 0 _).set 1 _).other _ _ _ (by omega)).other _ _ _ (by omega)).other _ _ _ (by omega)).other _ _ _ (by omega)),
   ((((((h1.other _ _ _ (by omega)).other _ _ _ (by omega)).set 0 _).set 1 _).set 2 _).set 3 _),
   fun _ h => (((((h.setCell (by simp) _).setCell (by simp) _).setCell (by simp) _).setCell (by simp) _).setCell (by simp) _).setCell (by simp) _⟩
set_option maxRecDepth 100000 in
set_option maxHeartbeats 3200000 in
theorem decodeReq_any (b off n cap : Nat) (bs : List UInt8) (w : World) (hlen : bs.length = n) (hsrc : From w (some ⟨b, off, none⟩) bs) (hbw : b < w.heap.size) (hsm : n ≤ 140737488355328) (hrm : n ≤ cap) :
    Calls Try.prog 19 #[.slice (some ⟨b, off, none⟩) n cap] w (DecQPost (whole request bs) w) := by
  have hmf : ∀ (fn : Fn) (first cap : Array Value) (w : World), (Instr.makeFunc fn first cap).run Try.prog w = .ok (.func fn first cap) w := fun _ _ _ _ => rfl
  have hb1 : Below w.heap.size w ((((w.alloc (.cells zeroQ 29)).alloc (.cells zeroO 31)).alloc (.cells zeroQ 29)).alloc (.cells zeroO 31)) := by go_grown
  have n0 : Blk ((((w.alloc (.cells zeroQ 29)).alloc (.cells zeroO 31)).alloc (.cells zeroQ 29)).alloc (.cells zeroO 31)) w.heap.size zeroQ 29 := by
    unfold Blk
    rw [Below.heap_alloc _ _ _ (by simp; omega), Below.heap_alloc _ _ _ (by first | (simp; done) | (simp; omega)), Below.heap_alloc _ _ _ (by simp)]; exact heap_alloc_new w _
  have n1 : Blk ((((w.alloc (.cells zeroQ 29)).alloc (.cells zeroO 31)).alloc (.cells zeroQ 29)).alloc (.cells zeroO 31)) (w.heap.size + 1) zeroO 31 := by
    unfold Blk
    rw [Below.heap_alloc _ _ _ (by first | (simp; done) | (simp; omega)), Below.heap_alloc _ _ _ (by simp)]; simpa using heap_alloc_new (w.alloc (.cells zeroQ 29)) (.cells zeroO 31)
  have n2 : Blk ((((w.alloc (.cells zeroQ 29)).alloc (.cells zeroO 31)).alloc (.cells zeroQ 29)).alloc (.cells zeroO 31)) (w.heap.size + 1 + 1) zeroQ 29 := by
    unfold Blk
    rw [Below.heap_alloc _ _ _ (by simp)]; simpa using heap_alloc_new ((w.alloc (.cells zeroQ 29)).alloc (.cells zeroO 31)) (.cells zeroQ 29)
  have n3 : Blk ((((w.alloc (.cells zeroQ 29)).alloc (.cells zeroO 31)).alloc (.cells zeroQ 29)).alloc (.cells zeroO 31)) (w.heap.size + 1 + 1 + 1) zeroO 31 := by
    unfold Blk
    simpa using heap_alloc_new (((w.alloc (.cells zeroQ 29)).alloc (.cells zeroO 31)).alloc (.cells zeroQ 29)) (.cells zeroO 31)
  have hz : ((((w.alloc (.cells zeroQ 29)).alloc (.cells zeroO 31)).alloc (.cells zeroQ 29)).alloc (.cells zeroO 31)).heap.size = w.heap.size + 4 := by simp
  go_enter Try.func19, Try.ntmps19
  go_wp2_with fail
  rw [zeroQ_is, zeroO_is]
  have hrd := read_any request (fun x w' => Blk w' (w.heap.size + 1 + 1) (callCells x.1) 29 ∧ Blk w' (w.heap.size + 1 + 1 + 1) (opCells x.2) 31) 40 (w.heap.size + 2) b off n cap #[.pointer (some ⟨w.heap.size + 1 + 1, 0, none⟩), .pointer (some ⟨w.heap.size + 1 + 1 + 1, 0, none⟩)] bs ((((w.alloc (.cells zeroQ 29)).alloc (.cells zeroO 31)).alloc (.cells zeroQ 29)).alloc (.cells zeroO 31)) enter40 hlen
    (hsrc.keep (fun b' o' e => by cases e; exact hb1.block _ hbw)) (by omega) hsm hrm (by omega)
    (fun m w' w'' hk hM => ⟨(hk _ hM.1.lt (by omega)).trans hM.1, (hk _ hM.2.lt (by omega)).trans hM.2⟩)
    (fun w2 hS2 hb2 hz2 => by
      rw [hz] at *
      exact clo40 (w.heap.size + 4) (w.heap.size + 2) (w.heap.size + 1 + 1) (w.heap.size + 1 + 1 + 1) b off n cap bs w2 hS2 ((hb2.block _ (by omega)).trans n2) ((hb2.block _ (by omega)).trans n3) (by omega) (by omega) (by omega) (by omega) (by omega) (by omega) hz2)
  generalize (((w.alloc (.cells zeroQ 29)).alloc (.cells zeroO 31)).alloc (.cells zeroQ 29)).alloc (.cells zeroO 31) = w1 at *
  refine hrd.mono ?_
  rintro e w2 ⟨hbl, h⟩
  have hbB : Below w.heap.size w w2 := hb1.trans (hbl.mono (by omega))
  have hB0 : Blk w2 w.heap.size zeroQ 29 := (hbl.block _ (by omega)).trans n0
  have hB1 : Blk w2 (w.heap.size + 1) zeroO 31 := (hbl.block _ (by omega)).trans n1
  clear hrd n0 n1 n2 n3 hbl hb1 hz
  have r0 : w2.cell? ⟨w.heap.size, 0, none⟩ = some (.int .i64 0) := by rw [hB0.cell]; rfl
  have r1 : w2.cell? ⟨w.heap.size, 1, none⟩ = some (.int .i64 0) := by rw [hB0.cell]; rfl
  have s0 : w2.cell? ⟨w.heap.size + 1, 0, none⟩ = some (.int .i64 0) := by rw [hB1.cell]; rfl
  have s1 : w2.cell? ⟨w.heap.size + 1, 1, none⟩ = some (.string ⟨#[]⟩) := by rw [hB1.cell]; rfl
  have s2 : w2.cell? ⟨w.heap.size + 1, 2, none⟩ = some (.int .i64 0) := by rw [hB1.cell]; rfl
  have s3 : w2.cell? ⟨w.heap.size + 1, 3, none⟩ = some (.int .i64 0) := by rw [hB1.cell]; rfl
  have f0 := hB0.frozen 0
  have f1 := hB0.frozen 1
  have g0 := hB1.frozen 0
  have g1 := hB1.frozen 1
  have g2 := hB1.frozen 2
  have g3 := hB1.frozen 3
  cases hr : whole request bs with
  | error k =>
    rw [hr] at h
    subst h
    have HR : Hid _ := hr
    clear hr
    generalize hLL : w.heap.size = L at *
    go_wp2
    obtain ⟨l1, l2, l3⟩ := laid6 w2 L 0 0 0 [] 0 0 hB0 hB1
    refine bodyPost_ret (results_cell22 Try.results19 _ _ L (L + 1) zeroQ zeroO rfl (run_loadVar_row _ _ 29 29 zeroQ (0, 0) _ l1 Try.underlying29 rfl (by kernel_rfl)) rfl (run_loadVar_row _ _ 31 31 zeroO (0, 0) _ l2 Try.underlying31 rfl (by kernel_rfl))) rfl ?_
    refine ⟨by rw [hLL]; exact l3 w hbB, ?_⟩
    rw [HR.out]
    rfl
  | ok v =>
    obtain ⟨x, k⟩ := v
    rw [hr] at h
    obtain ⟨rfl, hM1, hM2⟩ := h
    obtain ⟨⟨c, i⟩, o, nm, oa, ob⟩ := x
    have t0 : w2.cell? ⟨w.heap.size + 1 + 1, 0, none⟩ = some (.int .i64 c) := by rw [hM1.cell]; rfl
    have t1 : w2.cell? ⟨w.heap.size + 1 + 1, 1, none⟩ = some (.int .i64 i) := by rw [hM1.cell]; rfl
    have u0 : w2.cell? ⟨w.heap.size + 1 + 1 + 1, 0, none⟩ = some (.int .i64 o) := by rw [hM2.cell]; rfl
    have u1 : w2.cell? ⟨w.heap.size + 1 + 1 + 1, 1, none⟩ = some (.string ⟨nm.toArray⟩) := by rw [hM2.cell]; rfl
    have u2 : w2.cell? ⟨w.heap.size + 1 + 1 + 1, 2, none⟩ = some (.int .i64 oa) := by rw [hM2.cell]; rfl
    have u3 : w2.cell? ⟨w.heap.size + 1 + 1 + 1, 3, none⟩ = some (.int .i64 ob) := by rw [hM2.cell]; rfl
    have HR : Hid _ := hr
    clear hr
    generalize hLL : w.heap.size = L at *
    go_wp2
    have fin : ∀ (tm : Array Value) (W : World), tm.getD 2 undef = .pointer (some ⟨L, 0, none⟩) → tm.getD 3 undef = .pointer (some ⟨L + 1, 0, none⟩) → tm.getD 4 undef = .int .i64 0 → tm.getD 5 undef = .int .i64 0 →
        Blk W L (callCells (c, i)) 29 → Blk W (L + 1) (opCells (o, nm, oa, ob)) 31 → Below L w W → bodyPost Try.prog Try.f19 (DecQPost (whole request bs) w) Exit.ret { tmps := tm, defers := [] } W.drew := by
      intro tm W t2 t3 t4 t5 l1 l2 l3
      refine bodyPost_ret (results_cell22 Try.results19 _ _ L (L + 1) (callCells (c, i)) (opCells (o, nm, oa, ob)) t2 (run_loadVar_row _ _ 29 29 _ (0, 0) _ l1 Try.underlying29 rfl (by kernel_rfl)) t3 (run_loadVar_row _ _ 31 31 _ (0, 0) _ l2 Try.underlying31 rfl (by kernel_rfl))) rfl ?_
      refine ⟨by rw [hLL]; exact l3.drew, ?_⟩
      rw [HR.out, t4, t5]
    have HF : Hid _ := fin
    clear fin
    obtain ⟨l1, l2, l3⟩ := laid6 w2 L c i o nm oa ob hB0 hB1
    have L1 : Hid _ := l1
    have L2 : Hid _ := l2
    have L3 : Hid _ := l3
    clear l1 l2 l3
    go_region
    all_goals
      go_wp2
      exact HF.out _ _ rfl rfl rfl rfl L1.out L2.out (L3.out w hbB)
end Go.Proofs.Ytfgnlfemckdfnaa
namespace Go.Proofs.Ytfgnlfemckdfnaa.Sh
open Go.RowKit Go.PlainAid
set_option linter.unusedVariables false
set_option linter.unusedSimpArgs false
structure AV where
  kind : Int
  m : Msg
  ao : Option Addr
  cv : Nat
  s : Seg
  so : Option Addr
  sc : Nat
  q : Int × Int
  o : Int × List UInt8 × Int × Int
  r : (Int × Int) × Int × Int
  b : Value
def AV.D (x : AV) : Array Value := msgCells x.m (.slice x.ao x.m.views.length x.cv)
def AV.E (x : AV) : Array Value := segCells x.s.src x.s.dst x.s.seq x.s.ack (.slice x.so x.s.data.length x.sc)
def AV.cells (x : AV) : List Value := [.int .i64 x.kind] ++ x.D.toList ++ x.E.toList ++ (callCells x.q).toList ++ (opCells x.o).toList ++ (repCells x.r).toList ++ [x.b]
theorem AV.len (x : AV) : x.cells.length = 37 := rfl
structure AOk (w : World) (x : AV) : Prop where
  hl : x.m.name.length ≤ 140737488355328
  hol : x.m.oname.length ≤ 140737488355328
  src : VFrom w x.ao x.m.views
  sb : ∀ b o, x.ao = some ⟨b, o, none⟩ → 0 < x.m.views.length → b < w.heap.size
  nm : ∀ v ∈ x.m.views, v.name.length ≤ 140737488355328
  a1 : (-9223372036854775808 : Int) ≤ x.m.oa
  a2 : x.m.oa < 9223372036854775808
  b1 : (-9223372036854775808 : Int) ≤ x.m.ob
  b2 : x.m.ob < 9223372036854775808
  nil : x.so = none → x.s.data.length = 0 ∧ x.sc = 0
  frm : From w x.so x.s.data
  sd : ∀ b o, x.so = some ⟨b, o, none⟩ → 0 < x.s.data.length → b < w.heap.size
  hn : x.o.2.1.length ≤ 140737488355328
  x1 : (-9223372036854775808 : Int) ≤ x.o.2.2.1
  x2 : x.o.2.2.1 < 9223372036854775808
  y1 : (-9223372036854775808 : Int) ≤ x.o.2.2.2
  y2 : x.o.2.2.2 < 9223372036854775808
  z1 : (-9223372036854775808 : Int) ≤ x.r.2.2
  z2 : x.r.2.2 < 9223372036854775808
  one : x.b.oneCell' = true
theorem AOk.up {w W : World} {x : AV} (h : AOk w x) (hb : Below w.heap.size w W) : AOk W x :=
  { h with src := h.src.keep fun b o e h0 => hb.block b (h.sb b o e h0), sb := fun b o e h0 => Nat.lt_of_lt_of_le (h.sb b o e h0) hb.size, frm := h.frm.keep0 fun b o e h0 => hb.block b (h.sd b o e h0), sd := fun b o e h0 => Nat.lt_of_lt_of_le (h.sd b o e h0) hb.size }
theorem AOk.all {w : World} {x : AV} (h : AOk w x) : x.cells.toArray.all (·.oneCell') = true := by
  have := h.one
  simpa [AV.cells, AV.D, AV.E, msgCells, segCells, callCells, opCells, repCells, Str, Value.oneCell'] using this
end Go.Proofs.Ytfgnlfemckdfnaa.Sh
