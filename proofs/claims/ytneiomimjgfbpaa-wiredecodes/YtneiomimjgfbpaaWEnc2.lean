import Derived.Test.YtneiomimjgfbpaaWEnc
import Derived.Test.YtneiomimjgfbpaaRDecS
import Derived.Test.YtneiomimjgfbpaaRDecQ
namespace Go.Proofs.Ytneiomimjgfbpaa
open Go.RowKit Go.PlainAid

theorem enter39 (args : Array Value) (w : World) : (callFunc 40 args).run Try.prog w = .ok (.enter 40 args) w := by simp [go_sem]
theorem enter42 (args : Array Value) (w : World) : (callFunc 43 args).run Try.prog w = .ok (.enter 43 args) w := by simp [go_sem]
theorem enter45 (args : Array Value) (w : World) : (callFunc 46 args).run Try.prog w = .ok (.enter 46 args) w := by simp [go_sem]

set_option maxRecDepth 100000 in
set_option maxHeartbeats 1600000 in
theorem clo39 (hb b : Nat) (m : Seg) (ao : Option Addr) (cv : Nat) (w : World) (v : Value) (hS : WSt hb v [] w) (hM : Blk w b (segCells m.src m.dst m.seq m.ack (.slice ao m.data.length cv)) 46) (hb' : b < hb)
    (hnil : ao = none → m.data.length = 0 ∧ cv = 0) (hsrc : From w ao m.data) (hsb : ∀ b1 o1, ao = some ⟨b1, o1, none⟩ → b1 < hb) (hs : m.data.length ≤ 140000000000000) :
    Calls Try.prog 40 #[WH hb, .pointer (some ⟨b, 0, none⟩)] w (WPost hb [] w (segment.wr m)) := by
  have c : ∀ j x, (segCells m.src m.dst m.seq m.ack (.slice ao m.data.length cv))[j]? = some x → w.cell? ⟨b, j, none⟩ = some x := fun j x h => (hM.cell j).trans h
  have hm := segment_w hb b 0 v [] m.src m.dst m.seq m.ack ao m.data.length cv m.data w hS (c 0 _ rfl) (c 1 _ rfl) (c 2 _ rfl) (c 3 _ rfl) (c 4 _ rfl) rfl hnil hsrc hsb hs hb' (by simp)
  unfold WH at *
  clear c
  go_enter Try.func40, Try.ntmps40
  go_wp2_with fail
  refine hm.mono ?_
  rintro e1 w1 ⟨hst, h⟩
  have he : (⟨m.src, m.dst, m.seq, m.ack, m.data⟩ : Seg) = m := rfl
  rw [he] at h
  cases hr : segment.wr m with
  | none =>
    rw [hr] at h
    subst h
    exact ⟨rfl, hst, rfl⟩
  | some bs =>
    rw [hr] at h
    obtain ⟨rfl, v1, hS1⟩ := h
    have HR : Hid _ := hr
    clear hr hm
    go_wp2
    go_end0
    exact ⟨hst, by rw [HR.out]; exact ⟨rfl, v1, hS1⟩⟩

set_option maxRecDepth 100000 in
set_option maxHeartbeats 1600000 in
theorem clo45 (hb b : Nat) (r : (Int × Int) × Int × Int) (w : World) (v : Value) (hS : WSt hb v [] w) (hM : Blk w b (repCells r) 55) (hb' : b < hb) (hy1 : (-9223372036854775808 : Int) ≤ r.2.2) (hy2 : r.2.2 < 9223372036854775808) :
    Calls Try.prog 46 #[WH hb, .pointer (some ⟨b, 0, none⟩)] w (WPost hb [] w (reply.wr r)) := by
  have c : ∀ j x, (repCells r)[j]? = some x → w.cell? ⟨b, j, none⟩ = some x := fun j x h => (hM.cell j).trans h
  have hm := reply_w hb b 0 v [] r.1.1 r.1.2 r.2.1 r.2.2 w hS (c 0 _ rfl) (c 1 _ rfl) (c 2 _ rfl) (c 3 _ rfl) hb' hy1 hy2 (by simp)
  unfold WH at *
  clear c
  go_enter Try.func46, Try.ntmps46
  go_wp2_with fail
  refine hm.mono ?_
  rintro e1 w1 ⟨hst, h⟩
  have he : (((r.1.1, r.1.2), r.2.1, r.2.2) : (Int × Int) × Int × Int) = r := rfl
  rw [he] at h
  cases hr : reply.wr r with
  | none =>
    rw [hr] at h
    subst h
    exact ⟨rfl, hst, rfl⟩
  | some bs =>
    rw [hr] at h
    obtain ⟨rfl, v1, hS1⟩ := h
    have HR : Hid _ := hr
    clear hr hm
    go_wp2
    go_end0
    exact ⟨hst, by rw [HR.out]; exact ⟨rfl, v1, hS1⟩⟩

set_option maxRecDepth 100000 in
set_option maxHeartbeats 1600000 in
theorem clo42 (hb b b2 : Nat) (q : Int × Int) (o : Int × List UInt8 × Int × Int) (w : World) (v : Value) (hS : WSt hb v [] w) (hM : Blk w b (callCells q) 29) (hM2 : Blk w b2 (opCells o) 31) (hb' : b < hb) (hb2 : b2 < hb) (hn : o.2.1.length ≤ 140737488355328)
    (hx1 : (-9223372036854775808 : Int) ≤ o.2.2.1) (hx2 : o.2.2.1 < 9223372036854775808) (hy1 : (-9223372036854775808 : Int) ≤ o.2.2.2) (hy2 : o.2.2.2 < 9223372036854775808) :
    Calls Try.prog 43 #[WH hb, .pointer (some ⟨b, 0, none⟩), .pointer (some ⟨b2, 0, none⟩)] w (WPost hb [] w (request.wr (q, o))) := by
  have c : ∀ j x, (callCells q)[j]? = some x → w.cell? ⟨b, j, none⟩ = some x := fun j x h => (hM.cell j).trans h
  have c2 : ∀ j x, (opCells o)[j]? = some x → w.cell? ⟨b2, j, none⟩ = some x := fun j x h => (hM2.cell j).trans h
  have hm := request_w hb b 0 b2 0 v [] q.1 q.2 o.1 o.2.1 o.2.2.1 o.2.2.2 w hS (c 0 _ rfl) (c 1 _ rfl) (c2 0 _ rfl) (c2 1 _ rfl) (c2 2 _ rfl) (c2 3 _ rfl) hb' hb2 hn hx1 hx2 hy1 hy2 (by simp)
  unfold WH at *
  clear c c2
  go_enter Try.func43, Try.ntmps43
  go_wp2_with fail
  refine hm.mono ?_
  rintro e1 w1 ⟨hst, h⟩
  have he : (((q.1, q.2), o.1, o.2.1, o.2.2.1, o.2.2.2) : (Int × Int) × Int × List UInt8 × Int × Int) = (q, o) := rfl
  rw [he] at h
  cases hr : request.wr (q, o) with
  | none =>
    rw [hr] at h
    subst h
    exact ⟨rfl, hst, rfl⟩
  | some bs =>
    rw [hr] at h
    obtain ⟨rfl, v1, hS1⟩ := h
    have HR : Hid _ := hr
    clear hr hm
    go_wp2
    go_end0
    exact ⟨hst, by rw [HR.out]; exact ⟨rfl, v1, hS1⟩⟩

set_option maxRecDepth 100000 in
set_option maxHeartbeats 1600000 in
theorem encodeSeg_any (m : Seg) (ao : Option Addr) (cv : Nat) (w : World) (hnil : ao = none → m.data.length = 0 ∧ cv = 0) (hsrc : From w ao m.data) (hsb : ∀ b1 o1, ao = some ⟨b1, o1, none⟩ → b1 < w.heap.size) (hs : m.data.length ≤ 140000000000000) :
    Calls Try.prog 18 #[.agg (segCells m.src m.dst m.seq m.ack (.slice ao m.data.length cv))] w (EncPost (segment.wr m) w) := by
  have hmf : ∀ (fn : Fn) (first cap : Array Value) (w : World), (Instr.makeFunc fn first cap).run Try.prog w = .ok (.func fn first cap) w := fun _ _ _ _ => rfl
  generalize hD : segCells m.src m.dst m.seq m.ack (.slice ao m.data.length cv) = D
  have hsz : D.size = 5 := by rw [← hD]; rfl
  have hb1 : Below w.heap.size w (w.alloc (.cells D 46)) := by go_grown
  have n0 : Blk (w.alloc (.cells D 46)) w.heap.size D 46 := heap_alloc_new w _
  have hz1 : (w.alloc (.cells D 46)).heap.size = w.heap.size + 1 := by simp
  have hwr := write_any 40 #[.pointer (some ⟨w.heap.size, 0, none⟩)] (segment.wr m) (w.alloc (.cells D 46)) enter39 (fun w2 hS2 hb2 => by
    rw [hz1] at *
    exact clo39 _ w.heap.size m ao cv w2 _ hS2 (by rw [hD]; exact (hb2.block _ (by omega)).trans n0) (by omega) hnil (hsrc.keep fun b1 o1 e => (hb2.block b1 (by have := hsb b1 o1 e; omega)).trans (hb1.block b1 (hsb b1 o1 e))) (fun b1 o1 e => by have := hsb b1 o1 e; omega) hs)
  clear hD
  go_enter Try.func18, Try.ntmps18
  go_wp2_with fail
  refine hwr.mono ?_
  rintro e1 w1 h
  have h2 := enc_post h hb1
  clear hwr h
  generalize segment.wr m = r at *
  cases r with
  | none =>
    obtain ⟨hbl, rfl⟩ := h2
    go_wp2
    go_ret2
    exact ⟨hbl, rfl⟩
  | some bs =>
    obtain ⟨hbl, vv, rfl, hv⟩ := h2
    obtain ⟨ao1, cap1, rfl, _, _, _, _⟩ := own_from hv
    go_wp2
    go_ret2
    exact ⟨hbl, _, rfl, hv⟩

set_option maxRecDepth 100000 in
set_option maxHeartbeats 1600000 in
theorem encodeRep_any (r : (Int × Int) × Int × Int) (w : World) (hy1 : (-9223372036854775808 : Int) ≤ r.2.2) (hy2 : r.2.2 < 9223372036854775808) :
    Calls Try.prog 22 #[.agg (repCells r)] w (EncPost (reply.wr r) w) := by
  have hmf : ∀ (fn : Fn) (first cap : Array Value) (w : World), (Instr.makeFunc fn first cap).run Try.prog w = .ok (.func fn first cap) w := fun _ _ _ _ => rfl
  generalize hD : repCells r = D
  have hsz : D.size = 4 := by rw [← hD]; rfl
  have hb1 : Below w.heap.size w (w.alloc (.cells D 55)) := by go_grown
  have n0 : Blk (w.alloc (.cells D 55)) w.heap.size D 55 := heap_alloc_new w _
  have hz1 : (w.alloc (.cells D 55)).heap.size = w.heap.size + 1 := by simp
  have hwr := write_any 46 #[.pointer (some ⟨w.heap.size, 0, none⟩)] (reply.wr r) (w.alloc (.cells D 55)) enter45 (fun w2 hS2 hb2 => by
    rw [hz1] at *
    exact clo45 _ w.heap.size r w2 _ hS2 (by rw [hD]; exact (hb2.block _ (by omega)).trans n0) (by omega) hy1 hy2)
  clear hD
  go_enter Try.func22, Try.ntmps22
  go_wp2_with fail
  refine hwr.mono ?_
  rintro e1 w1 h
  have h2 := enc_post h hb1
  clear hwr h
  generalize reply.wr r = r at *
  cases r with
  | none =>
    obtain ⟨hbl, rfl⟩ := h2
    go_wp2
    go_ret2
    exact ⟨hbl, rfl⟩
  | some bs =>
    obtain ⟨hbl, vv, rfl, hv⟩ := h2
    obtain ⟨ao1, cap1, rfl, _, _, _, _⟩ := own_from hv
    go_wp2
    go_ret2
    exact ⟨hbl, _, rfl, hv⟩

set_option maxRecDepth 100000 in
set_option maxHeartbeats 1600000 in
theorem encodeReq_any (q : Int × Int) (o : Int × List UInt8 × Int × Int) (w : World) (hn : o.2.1.length ≤ 140737488355328)
    (hx1 : (-9223372036854775808 : Int) ≤ o.2.2.1) (hx2 : o.2.2.1 < 9223372036854775808) (hy1 : (-9223372036854775808 : Int) ≤ o.2.2.2) (hy2 : o.2.2.2 < 9223372036854775808) :
    Calls Try.prog 20 #[.agg (callCells q), .agg (opCells o)] w (EncPost (request.wr (q, o)) w) := by
  have hmf : ∀ (fn : Fn) (first cap : Array Value) (w : World), (Instr.makeFunc fn first cap).run Try.prog w = .ok (.func fn first cap) w := fun _ _ _ _ => rfl
  generalize hD : callCells q = D
  generalize hD2 : opCells o = D2
  have hsz : D.size = 2 := by rw [← hD]; rfl
  have hsz2 : D2.size = 4 := by rw [← hD2]; rfl
  have hb1 : Below w.heap.size w ((w.alloc (.cells D 29)).alloc (.cells D2 31)) := by go_grown
  have n0 : Blk ((w.alloc (.cells D 29)).alloc (.cells D2 31)) w.heap.size D 29 := (Below.heap_alloc _ _ _ (by simp)).trans (heap_alloc_new w _)
  have n1 : Blk ((w.alloc (.cells D 29)).alloc (.cells D2 31)) (w.heap.size + 1) D2 31 := by
    have := heap_alloc_new (w.alloc (.cells D 29)) (.cells D2 31)
    rw [World.size_alloc] at this
    exact this
  have hz1 : ((w.alloc (.cells D 29)).alloc (.cells D2 31)).heap.size = w.heap.size + 2 := by simp
  have hwr := write_any 43 #[.pointer (some ⟨w.heap.size, 0, none⟩), .pointer (some ⟨w.heap.size + 1, 0, none⟩)] (request.wr (q, o)) ((w.alloc (.cells D 29)).alloc (.cells D2 31)) enter42 (fun w2 hS2 hb2 => by
    rw [hz1] at *
    exact clo42 _ w.heap.size (w.heap.size + 1) q o w2 _ hS2 (by rw [hD]; exact (hb2.block _ (by omega)).trans n0) (by rw [hD2]; exact (hb2.block _ (by omega)).trans n1) (by omega) (by omega) hn hx1 hx2 hy1 hy2)
  clear hD hD2
  go_enter Try.func20, Try.ntmps20
  go_wp2_with fail
  refine hwr.mono ?_
  rintro e1 w1 h
  have h2 := enc_post h hb1
  clear hwr h
  generalize request.wr (q, o) = r at *
  cases r with
  | none =>
    obtain ⟨hbl, rfl⟩ := h2
    go_wp2
    go_ret2
    exact ⟨hbl, rfl⟩
  | some bs =>
    obtain ⟨hbl, vv, rfl, hv⟩ := h2
    obtain ⟨ao1, cap1, rfl, _, _, _, _⟩ := own_from hv
    go_wp2
    go_ret2
    exact ⟨hbl, _, rfl, hv⟩
end Go.Proofs.Ytneiomimjgfbpaa
