import Derived.Test.YtneiomimjgfbpaaRComp3
import Derived.Test.YtneiomimjgfbpaaRRead
import Derived.Test.YtneiomimjgfbpaaRMsg
namespace Go.Proofs.Ytneiomimjgfbpaa
open Go.RowKit Go.PlainAid
def segCells (f t q a : Int) (d : Value) : Array Value := #[.int .i64 f, .int .i64 t, .int .i64 q, .int .i64 a, d]
end Go.Proofs.Ytneiomimjgfbpaa
namespace Go.Proofs.Ytneiomimjgfbpaa
open Go.RowKit Go.PlainAid
theorem enter31 (args : Array Value) (w : World) : (callFunc 32 args).run Try.prog w = .ok (.enter 32 args) w := by simp [go_sem]
theorem RStep.below {hb mb base : Nat} {w w' : World} (h : RStep hb mb w w') (h1 : base ≤ hb) (h2 : base ≤ mb) (h3 : base ≤ w.heap.size) : Below base w w' :=
  ⟨h.os, h.tape, h.output, h.size, fun k hk => h.block k (by omega) (by omega) (by omega)⟩
set_option maxRecDepth 100000 in
set_option maxHeartbeats 1600000 in
theorem clo31 (L base mb b off n cap : Nat) (bs : List UInt8) (w1 : World) (hS : RSt (L + 1 + 1) (some ⟨b, off, none⟩) n cap bs 0 w1) (hB : Blk w1 mb zeroC 35) (hm' : base ≤ mb) (hmL : mb < L) (hbb : b < base) (hL : L + 4 ≤ w1.heap.size) :
    Calls Try.prog 32 #[RH (L + 1 + 1), .pointer (some ⟨mb, 0, none⟩)] w1 (RClo L base (some ⟨b, off, none⟩) n cap bs w1 (message.rd bs) fun m w' => MsgIs w' mb (L + 4) m) := by
  have hm := message_r (L + 1 + 1) b off n cap bs 0 mb w1 hS hB (by omega) (by omega) (by omega)
  unfold RH at *
  go_enter Try.func32, Try.ntmps32
  go_wp2_with fail
  refine hm.mono ?_
  intro e w2 h
  unfold RPostV at h
  rw [List.drop_zero] at h
  cases hr : message.rd bs with
  | error k =>
    rw [hr] at h
    obtain ⟨rfl, hS2, hst⟩ := h
    rw [Nat.zero_add] at hS2
    exact ⟨rfl, ⟨hst.below (by omega) hm' (by omega), fun i h1 h2 h3 => hst.block i h3 h2 (by omega)⟩, by rw [hr]; exact ⟨rfl, hS2⟩⟩
  | ok v =>
    obtain ⟨m, k⟩ := v
    rw [hr] at h
    obtain ⟨⟨⟨hh, rfl⟩, hM⟩, hS2, hst⟩ := h
    rw [Nat.zero_add] at hS2
    have hfin : RClo L base (some ⟨b, off, none⟩) n cap bs w1 (message.rd bs) (fun m w' => MsgIs w' mb (L + 4) m) (.returned (.tuple #[])) w2 := by
      refine ⟨⟨hst.below (by omega) hm' (by omega), fun i h1 h2 h3 => hst.block i h3 h2 (by omega)⟩, ?_⟩
      rw [hr]
      obtain ⟨ao, c, h1, h2⟩ := hM
      exact ⟨⟨_, rfl⟩, ⟨ao, c, h1, h2.mono hL⟩, hS2⟩
    clear hm hr
    go_wp2
    go_end0
    exact hfin
def DecPost (r : Res Msg) (w : World) (e : Ending) (w' : World) : Prop := Below w.heap.size w w' ∧ match r with
  | .error k => e = .returned (.tuple #[.agg zeroC, .int .i64 (k : Nat), .int .i64 20])
  | .ok (m, _) => ∃ ao c, e = .returned (.tuple #[.agg (msgCells m (.slice ao m.views.length c)), .int .i64 0, .int .i64 0]) ∧ VRow w' w.heap.size ao c m.views
theorem VRow.stable {w w' : World} {base : Nat} {ao : Option Addr} {c : Nat} {l : List View} (h : VRow w base ao c l) (hk : ∀ k, base ≤ k → k < w.heap.size → w'.heap[k]? = w.heap[k]?) : VRow w' base ao c l :=
  h.imp id fun ⟨vb, h1, h2, h3, h4, h5⟩ => ⟨vb, h1, h2, h3, h4, (hk vb h2 h5.lt).trans h5⟩
theorem setRow_blk {w : World} {g : Nat} {old cs : Array Value} {T : TypeId} (h : Blk w g old T) : Blk (w.setRow g cs) g cs T := setRow_heap w g old cs T _ h
theorem results_cell2 {fn : Func} {p x y : Tmp} {ty : TypeId} (h : fn.results = #[.cell p ty, .tmp x, .tmp y]) (tmps : Array Value) (w : World) (g : Nat) (cs : Array Value)
    (hp : tmps.getD p undef = .pointer (some ⟨g, 0, none⟩)) (hl : (loadVar ty ⟨g, 0, none⟩).run Try.prog w = .ok (.agg cs) w) :
    (results fn tmps).run Try.prog w = .ok (.tuple #[.agg cs, tmps.getD x undef, tmps.getD y undef]) w := by
  have hp' : tmps[p]?.getD undef = .pointer (some ⟨g, 0, none⟩) := by simpa using hp
  simp [results, h, hp', asAddr, hl]
theorem zero_is : (#[Value.int IntKind.i64 0, .string ⟨#[]⟩, .int .i64 0, .int .i64 0, .int .i64 0, .int .i64 0, .int .i64 0, .int .i64 0, .int .i64 0, .int .i64 0, .int .i64 0, .int .i64 0, .int .i64 0, .int .i64 0, .string ⟨#[]⟩, .int .i64 0, .int .i64 0, .int .i64 0, .int .i64 0, .slice none 0 0] : Array Value) = zeroC := rfl
set_option maxRecDepth 100000 in
set_option maxHeartbeats 3200000 in
theorem decode_any (b off n cap : Nat) (bs : List UInt8) (w : World) (hlen : bs.length = n) (hsrc : From w (some ⟨b, off, none⟩) bs) (hbw : b < w.heap.size) (hsm : n ≤ 140737488355328) (hrm : n ≤ cap) :
    Calls Try.prog 10 #[.slice (some ⟨b, off, none⟩) n cap] w (DecPost (whole message bs) w) := by
  have hmf : ∀ (fn : Fn) (first cap : Array Value) (w : World), (Instr.makeFunc fn first cap).run Try.prog w = .ok (.func fn first cap) w := fun _ _ _ _ => rfl
  have hb1 : Below w.heap.size w ((w.alloc (.cells zeroC 35)).alloc (.cells zeroC 35)) := by go_grown
  have n0 : Blk ((w.alloc (.cells zeroC 35)).alloc (.cells zeroC 35)) w.heap.size zeroC 35 := (Below.heap_alloc _ _ _ (by simp)).trans (heap_alloc_new w _)
  have n1 : Blk ((w.alloc (.cells zeroC 35)).alloc (.cells zeroC 35)) (w.heap.size + 1) zeroC 35 := by
    have := heap_alloc_new (w.alloc (.cells zeroC 35)) (.cells zeroC 35)
    rw [World.size_alloc] at this
    exact this
  have hz : ((w.alloc (.cells zeroC 35)).alloc (.cells zeroC 35)).heap.size = w.heap.size + 2 := by simp
  go_enter Try.func10, Try.ntmps10
  go_wp2_with fail
  rw [zero_is]
  have hrd := read_any message (fun m w' => MsgIs w' (w.heap.size + 1) (w.heap.size + 6) m) 32 (w.heap.size + 1) b off n cap #[.pointer (some ⟨w.heap.size + 1, 0, none⟩)] bs ((w.alloc (.cells zeroC 35)).alloc (.cells zeroC 35)) enter31 hlen
    (hsrc.keep (fun b' o' e => by cases e; exact hb1.block _ hbw)) (by omega) hsm hrm (by omega)
    (fun m w' w'' hk hM => by
      obtain ⟨ao, c, h1, h2⟩ := hM
      exact ⟨ao, c, (hk _ h1.lt (by omega)).trans h1, h2.stable fun k h3 h4 => hk k h4 (by omega)⟩)
    (fun w2 hS2 hb2 hz2 => by
      rw [hz] at *
      have hB2 : Blk w2 (w.heap.size + 1) zeroC 35 := (hb2.block _ (by omega)).trans n1
      exact clo31 (w.heap.size + 2) (w.heap.size + 1) (w.heap.size + 1) b off n cap bs w2 hS2 hB2 (by omega) (by omega) (by omega) hz2)
  generalize (w.alloc (.cells zeroC 35)).alloc (.cells zeroC 35) = w1 at *
  refine hrd.mono ?_
  rintro e w2 ⟨hbl, h⟩
  have hbB : Below w.heap.size w w2 := hb1.trans (hbl.mono (by omega))
  have hB0 : Blk w2 w.heap.size zeroC 35 := (hbl.block _ (by omega)).trans n0
  clear hrd n0 n1 hbl hb1
  cases hr : whole message bs with
  | error k =>
    rw [hr] at h
    subst h
    have hfin : DecPost (whole message bs) w (.returned (.tuple #[.agg zeroC, .int .i64 (k : Nat), .int .i64 20])) (w2.setRow w.heap.size zeroC) := by
      refine ⟨hbB.trans ⟨rfl, rfl, rfl, by simp [World.setRow], fun k hk => setRow_other _ _ _ _ (by omega)⟩, ?_⟩
      rw [hr]
    have hB3 := setRow_blk (cs := zeroC) hB0
    have HF : Hid _ := hfin
    clear hfin hr hbB
    go_wp2_with (first | (refine wpList_store_row rfl 35 (.tmp 2) (.tmp 16) rfl w.heap.size zeroC rfl rfl 35 zeroC hB0 (by kernel_rfl) rfl (by kernel_rfl) ?_) | fail)
    go_wp2
    exact bodyPost_ret (results_cell2 Try.results10 _ _ w.heap.size zeroC rfl (run_loadVar_row _ _ 35 35 zeroC (0, 0) _ hB3 Try.underlying35 rfl (by kernel_rfl))) rfl HF.out
  | ok v =>
    obtain ⟨m, k⟩ := v
    rw [hr] at h
    obtain ⟨rfl, ao, c, hM, hV⟩ := h
    have hall : (msgCells m (.slice ao m.views.length c)).all (·.oneCell') = true := by simp [msgCells, Value.oneCell', Str]
    have hfin : DecPost (whole message bs) w (.returned (.tuple #[.agg (msgCells m (.slice ao m.views.length c)), .int .i64 0, .int .i64 0])) (w2.setRow w.heap.size (msgCells m (.slice ao m.views.length c))) := by
      refine ⟨hbB.trans ⟨rfl, rfl, rfl, by simp [World.setRow], fun k hk => setRow_other _ _ _ _ (by omega)⟩, ?_⟩
      rw [hr]
      exact ⟨ao, c, rfl, (hV.stable fun k h3 _ => setRow_other _ _ _ _ (by omega)).mono (by omega)⟩
    have hB3 := setRow_blk (cs := msgCells m (.slice ao m.views.length c)) hB0
    have HF : Hid _ := hfin
    have HV : Hid _ := hV
    clear hfin hr hbB hV
    generalize hD : msgCells m (.slice ao m.views.length c) = D at *
    have hsz : D.size = 20 := by rw [← hD]; rfl
    have hi35 : (Try.prog.info? 35).map (·.size) = some D.size := by rw [hsz]; kernel_rfl
    clear hD
    go_wp2_with (first | (refine wpList_load_row rfl 35 (.tmp 5) rfl (w.heap.size + 1) rfl 35 D (0, 0) _ hM Try.underlying35 rfl hi35 ?_) | (refine wpList_store_row rfl 35 (.tmp 2) (.tmp 19) rfl w.heap.size D rfl rfl 35 zeroC hB0 hi35 (by rw [hsz]; rfl) hall ?_) | fail)
    go_wp2
    exact bodyPost_ret (results_cell2 Try.results10 _ _ w.heap.size D rfl (run_loadVar_row _ _ 35 35 D (0, 0) _ hB3 Try.underlying35 rfl hi35)) rfl HF.out
end Go.Proofs.Ytneiomimjgfbpaa
namespace Go.Proofs.Ytneiomimjgfbpaa
open Go.RowKit Go.PlainAid
theorem own_mono {w : World} {base base' : Nat} {v : Value} {n : Nat} {xs : List Value} (h : w.ownsRow base 5 1 v n xs) (hb : base' ≤ base) : w.ownsRow base' 5 1 v n xs := by
  refine ⟨h.1, h.2.imp id ?_⟩
  rintro ⟨g, c', cur, e1, e2, e3⟩
  exact ⟨g, c', cur, e1, by omega, e3⟩
theorem own_stable {w w' : World} {base : Nat} {v : Value} {n : Nat} {xs : List Value} (h : w.ownsRow base 5 1 v n xs) (hk : ∀ k, base ≤ k → k < w.heap.size → w'.heap[k]? = w.heap[k]?) : w'.ownsRow base 5 1 v n xs := by
  refine ⟨h.1, h.2.imp id ?_⟩
  rintro ⟨g, c', cur, e1, e2, e3, e4⟩
  exact ⟨g, c', cur, e1, e2, (hk g e2 (Array.getElem?_eq_some_iff.1 e3).1).trans e3, e4⟩
end Go.Proofs.Ytneiomimjgfbpaa
namespace Go.Proofs.Ytneiomimjgfbpaa
open Go.RowKit Go.PlainAid
def repCells (r : (Int × Int) × Int × Int) : Array Value := #[.int .i64 r.1.1, .int .i64 r.1.2, .int .i64 r.2.1, .int .i64 r.2.2]
end Go.Proofs.Ytneiomimjgfbpaa
