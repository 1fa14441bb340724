import Derived.Test.YtneiomimjgfbpaaWMsgA
import Derived.Test.YtneiomimjgfbpaaWMsgB
import Derived.Test.YtneiomimjgfbpaaWMsgC
import Derived.Test.YtneiomimjgfbpaaWMsgD
import Derived.Test.YtneiomimjgfbpaaWWrite
import Derived.Test.YtneiomimjgfbpaaBare2
import Derived.Test.YtneiomimjgfbpaaJC
namespace Go.Proofs.Ytneiomimjgfbpaa
open Go.RowKit Go.PlainAid
def hasM (m : Msg) : Int := if m.kind = 2 then (if hasCap m.err then 29 else 13) else hasOf m.kind
def bodyW (m : Msg) : Option (List UInt8) :=
  if m.kind = 1 then join (call.wr (m.session, m.id)) (op.wr (m.okind, m.oname, m.oa, m.ob))
  else if m.kind = 2 then (if hasCap m.err then join (call.wr (m.session, m.id)) (join ((name []).wr m.name) (join (errno.wr m.err) (caps.wr (m.cap, m.recaps)))) else join (call.wr (m.session, m.id)) (join ((name []).wr m.name) (errno.wr m.err)))
  else if m.kind = 3 then join ((name []).wr m.name) (join (caps.wr (m.cap, m.recaps)) (epoch.wr (m.round, m.rank)))
  else if m.kind = 4 then join ((name []).wr m.name) (join (caps.wr (m.cap, m.recaps)) (join (epoch.wr (m.round, m.rank)) (join (rights.wr (m.down, m.up)) (held.wr m.held))))
  else if m.kind = 7 then join ((name []).wr m.name) (join (caps.wr (m.cap, m.recaps)) (join (epoch.wr (m.round, m.rank)) (epoch.wr (m.oround, m.orank))))
  else if m.kind = 8 ∨ m.kind = 9 then join ((name []).wr m.name) (join (caps.wr (m.cap, m.recaps)) (rights.wr (m.down, m.up)))
  else if m.kind = 10 then views.wr m.views
  else join ((name []).wr m.name) (join (caps.wr (m.cap, m.recaps)) (join (epoch.wr (m.round, m.rank)) (rights.wr (m.down, m.up))))
def fieldsW (m : Msg) : Option (List UInt8) := join ((num 1 10).wr m.kind) (bodyW m)
structure Fit (m : Msg) : Prop where
  name : m.name.length ≤ 140737488355328
  oname : m.oname.length ≤ 140737488355328
  a1 : (-9223372036854775808 : Int) ≤ m.oa
  a2 : m.oa < 9223372036854775808
  b1 : (-9223372036854775808 : Int) ≤ m.ob
  b2 : m.ob < 9223372036854775808
  views : m.views.length ≤ 140000000000000
  names : ∀ x ∈ m.views, x.name.length ≤ 140737488355328
set_option maxRecDepth 100000 in
set_option maxHeartbeats 1600000 in
theorem message_w (hb b : Nat) (v : Value) (out : List UInt8) (m : Msg) (ao : Option Addr) (cv : Nat) (w : World) (hS : WSt hb v out w) (hM : Blk w b (msgCells m (.slice ao m.views.length cv)) 35) (hb' : b < hb) (hf : Fit m)
    (hsrc : VFrom w ao m.views) (hsb : ∀ b1 o1, ao = some ⟨b1, o1, none⟩ → b1 < hb) (hl : out.length ≤ 800000) :
    Calls Try.prog 33 #[WH hb, .pointer (some ⟨b, 0, none⟩)] w (WPostR hb out w (fieldsW m) (.int .u64 (hasM m))) := by
  have c : ∀ j x, (msgCells m (.slice ao m.views.length cv))[j]? = some x → w.cell? ⟨b, j, none⟩ = some x := fun j x h => (hM.cell j).trans h
  by_cases hk : 1 ≤ m.kind ∧ m.kind ≤ 10
  · unfold hasM fieldsW bodyW
    have k0 : w.cell? ⟨b, 0, none⟩ = some (.int .i64 m.kind) := c 0 _ rfl
    rcases (show m.kind = 1 ∨ m.kind = 2 ∨ m.kind = 3 ∨ m.kind = 4 ∨ m.kind = 5 ∨ m.kind = 6 ∨ m.kind = 7 ∨ m.kind = 8 ∨ m.kind = 9 ∨ m.kind = 10 from by omega) with e | e | e | e | e | e | e | e | e | e <;> rw [e] at k0 ⊢
    · exact msg1_w hb b v out m.oname m.session m.id m.okind m.oa m.ob w hS k0 (c 11 _ rfl) (c 12 _ rfl) (c 13 _ rfl) (c 14 _ rfl) (c 15 _ rfl) (c 16 _ rfl) hb' hf.oname hf.a1 hf.a2 hf.b1 hf.b2 hl _ (by simp)
    · have her : w.cell? ⟨b, 17, none⟩ = some (.int .i64 m.err) := c 17 _ rfl
      by_cases h0 : m.err = 0
      · rw [h0] at her ⊢
        exact msg2z_w hb b v out m.name m.session m.id m.cap m.recaps w hS k0 (c 11 _ rfl) (c 12 _ rfl) (c 1 _ rfl) her (c 2 _ rfl) (c 3 _ rfl) hb' hf.name hl _ (by simp [hasCap])
      · by_cases h1 : m.err = 101
        · rw [h1] at her ⊢
          exact msg2x_w hb b v out m.name m.session m.id m.cap m.recaps w hS k0 (c 11 _ rfl) (c 12 _ rfl) (c 1 _ rfl) her (c 2 _ rfl) (c 3 _ rfl) hb' hf.name hl _ (by simp [hasCap])
        · have hc : hasCap m.err = false := by simp [hasCap, h0, h1]
          rw [hc]
          exact msg2n_w hb b v out m.name m.session m.id m.err w hS k0 (c 11 _ rfl) (c 12 _ rfl) (c 1 _ rfl) her hb' hf.name (by rw [beq_eq_false_iff_ne]; exact h0) (by rw [beq_eq_false_iff_ne]; exact h1) hl _ (by simp)
    · exact msg3_w hb b v out m.name m.cap m.recaps m.round m.rank w hS k0 (c 1 _ rfl) (c 2 _ rfl) (c 3 _ rfl) (c 4 _ rfl) (c 5 _ rfl) hb' hf.name hl _ (by simp)
    · exact msg4_w hb b v out m.name m.cap m.recaps m.round m.rank m.down m.up m.held w hS k0 (c 1 _ rfl) (c 2 _ rfl) (c 3 _ rfl) (c 4 _ rfl) (c 5 _ rfl) (c 8 _ rfl) (c 9 _ rfl) (c 10 _ rfl) hb' hf.name hl _ (by simp)
    · exact msg5_w hb b v out m.name m.cap m.recaps m.round m.rank m.down m.up w hS k0 (c 1 _ rfl) (c 2 _ rfl) (c 3 _ rfl) (c 4 _ rfl) (c 5 _ rfl) (c 8 _ rfl) (c 9 _ rfl) hb' hf.name hl _ (by simp)
    · exact msg6_w hb b v out m.name m.cap m.recaps m.round m.rank m.down m.up w hS k0 (c 1 _ rfl) (c 2 _ rfl) (c 3 _ rfl) (c 4 _ rfl) (c 5 _ rfl) (c 8 _ rfl) (c 9 _ rfl) hb' hf.name hl _ (by simp)
    · exact msg7_w hb b v out m.name m.cap m.recaps m.round m.rank m.oround m.orank w hS k0 (c 1 _ rfl) (c 2 _ rfl) (c 3 _ rfl) (c 4 _ rfl) (c 5 _ rfl) (c 6 _ rfl) (c 7 _ rfl) hb' hf.name hl _ (by simp)
    · exact msg8_w hb b v out m.name m.cap m.recaps m.down m.up w hS k0 (c 1 _ rfl) (c 2 _ rfl) (c 3 _ rfl) (c 8 _ rfl) (c 9 _ rfl) hb' hf.name hl _ (by simp)
    · exact msg9_w hb b v out m.name m.cap m.recaps m.down m.up w hS k0 (c 1 _ rfl) (c 2 _ rfl) (c 3 _ rfl) (c 8 _ rfl) (c 9 _ rfl) hb' hf.name hl _ (by simp)
    · exact msg10_w hb b v out ao m.views.length cv m.views w hS k0 (c 19 _ rfl) hb' rfl hsrc hsb hf.views hf.names hl _ (by simp)
  · have hn : (num 1 10).wr m.kind = none := by
      simp only [num]; rw [if_neg (by simp only [Bool.and_eq_true, decide_eq_true_eq]; omega)]
    have hfw : fieldsW m = none := by unfold fieldsW; rw [hn]; rfl
    have A1 := ahead_num_w ⟨hb, 0, none⟩
    have k0 : w.cell? ⟨b, 0, none⟩ = some (.int .i64 m.kind) := c 0 _ rfl
    rw [hfw]
    unfold WH
    clear c hM
    go_enter Try.func33, Try.ntmps33
    go_wp2_with fail
    try go_region_dies
    refine (number_w hb b 0 1 10 v out m.kind 1 10 _ (by first | exact hS | exact hS.drew) (by exact k0) rfl rfl (by decide) (by omega)).mono ?_
    rw [hn]
    rintro e1 w1 ⟨hsd, rfl⟩
    have hst : WStep hb w w1 := by first | exact hsd | exact hsd.ofDrew
    exact ⟨rfl, hst, rfl⟩
theorem enter35 (args : Array Value) (w : World) : (callFunc 36 args).run Try.prog w = .ok (.enter 36 args) w := by simp [go_sem]
def encM (m : Msg) : Option (List UInt8) := match fieldsW m with
  | none => none
  | some bs => if bareB m m.views.length (hasM m) then some bs else none
set_option maxRecDepth 100000 in
set_option maxHeartbeats 1600000 in
theorem clo35 (hb b : Nat) (m : Msg) (ao : Option Addr) (cv : Nat) (w : World) (v : Value) (hS : WSt hb v [] w) (hM : Blk w b (msgCells m (.slice ao m.views.length cv)) 35) (hb' : b < hb) (hf : Fit m)
    (hsrc : VFrom w ao m.views) (hsb : ∀ b1 o1, ao = some ⟨b1, o1, none⟩ → b1 < hb) :
    Calls Try.prog 36 #[WH hb, .pointer (some ⟨b, 0, none⟩)] w (WPost hb [] w (encM m)) := by
  have hm := message_w hb b v [] m ao cv w hS hM hb' hf hsrc hsb (by simp)
  unfold WH at *
  go_enter Try.func36, Try.ntmps36
  go_wp2_with fail
  refine hm.mono ?_
  rintro e1 w1 ⟨hst, h⟩
  cases hr : fieldsW m with
  | none =>
    rw [hr] at h
    subst h
    have hn : encM m = none := by simp only [encM, hr]
    exact ⟨rfl, hst, by rw [hn]; rfl⟩
  | some bs =>
    rw [hr] at h
    obtain ⟨rfl, v1, hS1⟩ := h
    have hM1 : Blk w1 b (msgCells m (.slice ao m.views.length cv)) 35 := (hst.below.block b hb').trans hM
    have hn : encM m = if bareB m m.views.length (hasM m) then some bs else none := by simp only [encM, hr]
    have hba := bare_any m ao m.views.length cv (hasM m) w1
    have hlt := hS1.lt
    have HN : Hid _ := hn
    clear hn hr hm
    generalize hD : msgCells m (.slice ao m.views.length cv) = D at *
    have hsz : D.size = 20 := by rw [← hD]; rfl
    have hi35 : (Try.prog.info? 35).map (·.size) = some D.size := by rw [hsz]; kernel_rfl
    clear hD
    go_wp2_with (first | (refine wpList_load_row rfl 35 (.tmp 1) rfl b rfl 35 D (0, 0) _ hM1 Try.underlying35 rfl hi35 ?_) | fail)
    refine hba.mono ?_
    rintro e2 w2 ⟨rfl, hbl⟩
    have hS2 : WSt hb v1 ([] ++ bs) w2 := ⟨(hbl.block _ hlt).trans hS1.blk, own_stable hS1.own fun k _ hk => hbl.block k hk⟩
    have hst2 : WStep hb w w2 := hst.trans ⟨hbl.mono (by omega), fun k _ _ _ hk _ _ => hbl.block k (Array.getElem?_eq_some_iff.1 hk).1⟩
    clear hba hM1 hi35 hS1 hst hbl
    by_cases hg : bareB m m.views.length (hasM m) = true
    · rw [if_pos hg] at HN
      rw [hg]
      have hnot : ∀ (x : Bool) (w : World), (Op.unary .not (.bool x)).run Try.prog w = .ok (.bool (!x)) w := fun _ _ => rfl
      go_wp2
      go_end0
      exact ⟨hst2, by rw [HN.out]; exact ⟨rfl, v1, hS2⟩⟩
    · rw [if_neg hg] at HN
      rw [show bareB m m.views.length (hasM m) = false from by simpa using hg]
      have hnot : ∀ (x : Bool) (w : World), (Op.unary .not (.bool x)).run Try.prog w = .ok (.bool (!x)) w := fun _ _ => rfl
      go_wp2
      exact ⟨rfl, hst2, by rw [HN.out]; rfl⟩
def EncPost (r : Option (List UInt8)) (w : World) (e : Ending) (w' : World) : Prop := Below w.heap.size w w' ∧ match r with
    | none => e = .returned (.tuple #[.slice none 0 0, .int .i64 21])
    | some bs => ∃ v, e = .returned (.tuple #[v, .int .i64 0]) ∧ w'.ownsRow w.heap.size 5 1 v bs.length (bs.map B)
theorem enc_post {r : Option (List UInt8)} {w1 w : World} {e : Ending} {w' : World} (h : WDone r w1 e w') (hb : Below w.heap.size w w1) : EncPost r w e w' := by
  obtain ⟨h1, h2⟩ := h
  refine ⟨hb.trans (h1.mono hb.size), ?_⟩
  cases r with
  | none => exact h2
  | some bs =>
    obtain ⟨v, h3, h4⟩ := h2
    exact ⟨v, h3, own_mono h4 hb.size⟩
set_option maxRecDepth 100000 in
set_option maxHeartbeats 1600000 in
theorem encode_any (m : Msg) (ao : Option Addr) (cv : Nat) (w : World) (hf : Fit m) (hsrc : VFrom w ao m.views) (hsb : ∀ b1 o1, ao = some ⟨b1, o1, none⟩ → b1 < w.heap.size) :
    Calls Try.prog 14 #[.agg (msgCells m (.slice ao m.views.length cv))] w (EncPost (encM m) w) := by
  have hmf : ∀ (fn : Fn) (first cap : Array Value) (w : World), (Instr.makeFunc fn first cap).run Try.prog w = .ok (.func fn first cap) w := fun _ _ _ _ => rfl
  generalize hD : msgCells m (.slice ao m.views.length cv) = D
  have hsz : D.size = 20 := by rw [← hD]; rfl
  have hb1 : Below w.heap.size w (w.alloc (.cells D 35)) := by go_grown
  have n0 : Blk (w.alloc (.cells D 35)) w.heap.size D 35 := heap_alloc_new w _
  have hz1 : (w.alloc (.cells D 35)).heap.size = w.heap.size + 1 := by simp
  have hwr := write_any 36 #[.pointer (some ⟨w.heap.size, 0, none⟩)] (encM m) (w.alloc (.cells D 35)) enter35 (fun w2 hS2 hb2 => by
    rw [hz1] at *
    refine clo35 _ w.heap.size m ao cv w2 _ hS2 (by rw [hD]; exact (hb2.block _ (by omega)).trans n0) (by omega) hf (hsrc.keep fun b1 o1 e => (hb2.block b1 (by have := hsb b1 o1 e; omega)).trans (hb1.block b1 (hsb b1 o1 e))) (fun b1 o1 e => by have := hsb b1 o1 e; omega))
  clear hD hsrc
  go_enter Try.func14, Try.ntmps14
  go_wp2_with fail
  refine hwr.mono ?_
  rintro e1 w1 h
  have h2 := enc_post h hb1
  clear hwr h
  generalize encM m = r at *
  cases r with
  | none =>
    obtain ⟨hbl, rfl⟩ := h2
    go_wp2
    go_ret2
    exact ⟨hbl, rfl⟩
  | some bs =>
    obtain ⟨hbl, vv, rfl, hv⟩ := h2
    obtain ⟨ao1, cap1, rfl, _, _, _, _⟩ := own_from hv
    go_wp2
    go_ret2
    exact ⟨hbl, _, rfl, hv⟩
end Go.Proofs.Ytneiomimjgfbpaa
namespace Go.Proofs.Ytneiomimjgfbpaa
open Go.RowKit Go.PlainAid
theorem enter40 (args : Array Value) (w : World) : (callFunc 41 args).run Try.prog w = .ok (.enter 41 args) w := by simp [go_sem]
def callCells (c : Int × Int) : Array Value := #[.int .i64 c.1, .int .i64 c.2]
def opCells (o : Int × List UInt8 × Int × Int) : Array Value := #[.int .i64 o.1, Str o.2.1, .int .i64 o.2.2.1, .int .i64 o.2.2.2]
def zeroQ : Array Value := callCells (0, 0)
def zeroO : Array Value := opCells (0, [], 0, 0)
def ReqPost (hb m1 m2 : Nat) (ao : Option Addr) (n cap : Nat) (bs : List UInt8) (w : World) (r : Res ((Int × Int) × Int × List UInt8 × Int × Int)) (e : Ending) (w' : World) : Prop :=
  (w'.os = w.os ∧ w'.tape = w.tape ∧ w'.output = w.output ∧ w.heap.size ≤ w'.heap.size ∧ ∀ k, k < w.heap.size → k ≠ hb → k ≠ m1 → k ≠ m2 → w'.heap[k]? = w.heap[k]?) ∧ match r with
  | .error k => e = refused ∧ RSt hb ao n cap bs k w'
  | .ok (x, k) => e = tup ∧ (Blk w' m1 (callCells x.1) 29 ∧ Blk w' m2 (opCells x.2) 31) ∧ RSt hb ao n cap bs k w'
set_option maxRecDepth 100000 in
set_option maxHeartbeats 1600000 in
theorem request_r (hb b off n cap : Nat) (bs : List UInt8) (m1 m2 : Nat) (w : World) (hS : RSt hb (some ⟨b, off, none⟩) n cap bs 0 w)
    (hB1 : Blk w m1 zeroQ 29) (hB2 : Blk w m2 zeroO 31) (h12 : m1 ≠ m2) (hne1 : m1 ≠ hb) (hne2 : m2 ≠ hb) (hb1 : b ≠ m1) (hb2 : b ≠ m2) (hbw : b < w.heap.size) :
    Calls Try.prog 42 #[RH hb, .pointer (some ⟨m1, 0, none⟩), .pointer (some ⟨m2, 0, none⟩)] w (ReqPost hb m1 m2 (some ⟨b, off, none⟩) n cap bs w (request.rd bs)) := by
  have hc := call_r hb b off n cap bs 0 m1 0 zeroQ 29 (.int .i64 0) (.int .i64 0) w hS hB1 rfl rfl hne1 hb1 hbw
  have hl2 := hB2.lt
  unfold RH at *
  go_enter Try.func42, Try.ntmps42
  go_wp2_with fail
  refine hc.mono ?_
  intro e1 w1 h1
  unfold RPostV at h1
  rw [List.drop_zero] at h1
  cases hr1 : call.rd bs with
  | error k =>
    have hn : request.rd bs = .error k := by simp only [request, pair, Codec.bind, hr1]
    rw [hr1] at h1
    obtain ⟨rfl, hS1, hst1⟩ := h1
    rw [Nat.zero_add] at hS1
    refine ⟨rfl, ⟨hst1.os, hst1.tape, hst1.output, hst1.size, fun k h1 h2 h3 _ => hst1.block k h1 h2 h3⟩, ?_⟩
    rw [hn]
    exact ⟨rfl, hS1⟩
  | ok v =>
    obtain ⟨x, k⟩ := v
    rw [hr1] at h1
    obtain ⟨⟨rfl, hC1⟩, hS1, hst1⟩ := h1
    rw [Nat.zero_add] at hS1
    have hO1 : Blk w1 m2 zeroO 31 := (hst1.block m2 hl2 hne2 (by omega)).trans hB2
    have ho := op_r hb b off n cap bs k m2 0 zeroO 31 (.int .i64 0) [] (.int .i64 0) (.int .i64 0) w1 hS1 hO1 rfl rfl rfl rfl hne2 hb2 (Nat.lt_of_lt_of_le hbw hst1.size)
    have hsz := hst1.size
    have hl1 := hC1.lt
    clear hc
    unfold tup
    unfold RH at ho
    go_wp2_with fail
    refine ho.mono ?_
    intro e2 w2 h2
    unfold RPostV at h2
    cases hr2 : op.rd (bs.drop k) with
    | error j =>
      have hn : request.rd bs = .error (k + j) := by simp only [request, pair, Codec.bind, hr1, hr2]
      rw [hr2] at h2
      obtain ⟨rfl, hS2, hst2⟩ := h2
      refine ⟨rfl, ⟨hst2.os.trans hst1.os, hst2.tape.trans hst1.tape, hst2.output.trans hst1.output, Nat.le_trans hst1.size hst2.size, fun i h1 h2 h3 h4 => (hst2.block i (by omega) h2 h4).trans (hst1.block i h1 h2 h3)⟩, ?_⟩
      rw [hn]
      exact ⟨rfl, hS2⟩
    | ok v =>
      obtain ⟨y, j⟩ := v
      have hn : request.rd bs = .ok ((x, y), k + j) := by simp only [request, pair, Codec.bind, hr1, hr2]
      rw [hr2] at h2
      obtain ⟨⟨rfl, hC2⟩, hS2, hst2⟩ := h2
      have hC1' : Blk w2 m1 (callCells x) 29 := (hst2.block m1 hl1 hne1 h12).trans hC1
      have hfin : ReqPost hb m1 m2 (some ⟨b, off, none⟩) n cap bs w (request.rd bs) tup w2 := by
        refine ⟨⟨hst2.os.trans hst1.os, hst2.tape.trans hst1.tape, hst2.output.trans hst1.output, Nat.le_trans hst1.size hst2.size, fun i h1 h2 h3 h4 => (hst2.block i (by omega) h2 h4).trans (hst1.block i h1 h2 h3)⟩, ?_⟩
        rw [hn]
        exact ⟨rfl, ⟨hC1', hC2⟩, hS2⟩
      unfold tup at *
      clear ho hr1 hr2 hn
      go_wp2
      go_end0
      exact hfin
set_option maxRecDepth 100000 in
set_option maxHeartbeats 1600000 in
theorem clo40 (L base m1 m2 b off n cap : Nat) (bs : List UInt8) (w1 : World) (hS : RSt (L + 1 + 1) (some ⟨b, off, none⟩) n cap bs 0 w1) (hB1 : Blk w1 m1 zeroQ 29) (hB2 : Blk w1 m2 zeroO 31) (h12 : m1 ≠ m2) (hm1 : base ≤ m1) (hm2 : base ≤ m2) (hmL1 : m1 < L) (hmL2 : m2 < L) (hbb : b < base) (hL : L + 4 ≤ w1.heap.size) :
    Calls Try.prog 41 #[RH (L + 1 + 1), .pointer (some ⟨m1, 0, none⟩), .pointer (some ⟨m2, 0, none⟩)] w1 (RClo L base (some ⟨b, off, none⟩) n cap bs w1 (request.rd bs) fun x w' => Blk w' m1 (callCells x.1) 29 ∧ Blk w' m2 (opCells x.2) 31) := by
  have hq := request_r (L + 1 + 1) b off n cap bs m1 m2 w1 hS hB1 hB2 h12 (by omega) (by omega) (by omega) (by omega) (by omega)
  unfold RH at *
  go_enter Try.func41, Try.ntmps41
  go_wp2_with fail
  refine hq.mono ?_
  rintro e w2 ⟨⟨g1, g2, g3, g4, g5⟩, h⟩
  have hfr : Below base w1 w2 ∧ ∀ k, L ≤ k → k ≠ L + 1 + 1 → k < w1.heap.size → w2.heap[k]? = w1.heap[k]? :=
    ⟨⟨g1, g2, g3, g4, fun k hk => g5 k (by omega) (by omega) (by omega) (by omega)⟩, fun k h1 h2 h3 => g5 k h3 h2 (by omega) (by omega)⟩
  clear g1 g2 g3 g4 g5 hq
  cases hr : request.rd bs with
  | error k =>
    rw [hr] at h
    obtain ⟨rfl, hS2⟩ := h
    exact ⟨rfl, hfr, by rw [hr]; exact ⟨rfl, hS2⟩⟩
  | ok v =>
    obtain ⟨x, k⟩ := v
    rw [hr] at h
    obtain ⟨rfl, hM, hS2⟩ := h
    have hfin : RClo L base (some ⟨b, off, none⟩) n cap bs w1 (request.rd bs) (fun x w' => Blk w' m1 (callCells x.1) 29 ∧ Blk w' m2 (opCells x.2) 31) (.returned (.tuple #[])) w2 := by
      refine ⟨hfr, ?_⟩
      rw [hr]
      exact ⟨⟨_, rfl⟩, hM, hS2⟩
    clear hr hfr
    unfold tup
    go_wp2
    go_end0
    exact hfin
def DecQPost (r : Res ((Int × Int) × Int × List UInt8 × Int × Int)) (w : World) (e : Ending) (w' : World) : Prop := Below w.heap.size w w' ∧ match r with
  | .error k => e = .returned (.tuple #[.agg zeroQ, .agg zeroO, .int .i64 (k : Nat), .int .i64 20])
  | .ok (x, _) => e = .returned (.tuple #[.agg (callCells x.1), .agg (opCells x.2), .int .i64 0, .int .i64 0])
theorem zeroQ_is : (#[Value.int IntKind.i64 0, .int .i64 0] : Array Value) = zeroQ := rfl
theorem zeroO_is : (#[Value.int IntKind.i64 0, .string ⟨#[]⟩, .int .i64 0, .int .i64 0] : Array Value) = zeroO := rfl
theorem results_cell22 {fn : Func} {p q x y : Tmp} {ty ty2 : TypeId} (h : fn.results = #[.cell p ty, .cell q ty2, .tmp x, .tmp y]) (tmps : Array Value) (w : World) (g g2 : Nat) (cs cs2 : Array Value)
    (hp : tmps.getD p undef = .pointer (some ⟨g, 0, none⟩)) (hl : (loadVar ty ⟨g, 0, none⟩).run Try.prog w = .ok (.agg cs) w)
    (hq : tmps.getD q undef = .pointer (some ⟨g2, 0, none⟩)) (hl2 : (loadVar ty2 ⟨g2, 0, none⟩).run Try.prog w = .ok (.agg cs2) w) :
    (results fn tmps).run Try.prog w = .ok (.tuple #[.agg cs, .agg cs2, tmps.getD x undef, tmps.getD y undef]) w := by
  have hp' : tmps[p]?.getD undef = .pointer (some ⟨g, 0, none⟩) := by simpa using hp
  have hq' : tmps[q]?.getD undef = .pointer (some ⟨g2, 0, none⟩) := by simpa using hq
  simp [results, h, hp', hq', asAddr, hl, hl2]
theorem Blk.other {w : World} {mb : Nat} {C : Array Value} {T : TypeId} (h : Blk w mb C T) (g j : Nat) (v : Value) (hne : mb ≠ g) : Blk (w.setCell ⟨g, j, none⟩ v) mb C T := (Below.heap_setCell _ _ _ _ hne).trans h
theorem laid6 (w : World) (L : Nat) (c i o : Int) (nm : List UInt8) (oa ob : Int) (h0 : Blk w L zeroQ 29) (h1 : Blk w (L + 1) zeroO 31) :
    Blk ((((((w.setCell ⟨L, 0, none⟩ (.int .i64 c)).setCell ⟨L, 1, none⟩ (.int .i64 i)).setCell ⟨L + 1, 0, none⟩ (.int .i64 o)).setCell ⟨L + 1, 1, none⟩ (.string ⟨nm.toArray⟩)).setCell ⟨L + 1, 2, none⟩ (.int .i64 oa)).setCell ⟨L + 1, 3, none⟩ (.int .i64 ob)) L (callCells (c, i)) 29 ∧
    Blk ((((((w.setCell ⟨L, 0, none⟩ (.int .i64 c)).setCell ⟨L, 1, none⟩ (.int .i64 i)).setCell ⟨L + 1, 0, none⟩ (.int .i64 o)).setCell ⟨L + 1, 1, none⟩ (.string ⟨nm.toArray⟩)).setCell ⟨L + 1, 2, none⟩ (.int .i64 oa)).setCell ⟨L + 1, 3, none⟩ (.int .i64 ob)) (L + 1) (opCells (o, nm, oa, ob)) 31 ∧
    ∀ w0, Below L w0 w → Below L w0 ((((((w.setCell ⟨L, 0, none⟩ (.int .i64 c)).setCell ⟨L, 1, none⟩ (.int .i64 i)).setCell ⟨L + 1, 0, none⟩ (.int .i64 o)).setCell ⟨L + 1, 1, none⟩ (.string ⟨nm.toArray⟩)).setCell ⟨L + 1, 2, none⟩ (.int .i64 oa)).setCell ⟨L + 1, 3, none⟩ (.int .i64 ob)) :=
  ⟨((((((h0.set 0 _).set 1 _).other _ _ _ (by omega)).other _ _ _ (by omega)).other _ _ _ (by omega)).other _ _ _ (by omega)),
   ((((((h1.other _ _ _ (by omega)).other _ _ _ (by omega)).set 0 _).set 1 _).set 2 _).set 3 _),
   fun _ h => (((((h.setCell (by simp) _).setCell (by simp) _).setCell (by simp) _).setCell (by simp) _).setCell (by simp) _).setCell (by simp) _⟩
set_option maxRecDepth 100000 in
set_option maxHeartbeats 3200000 in
theorem decodeReq_any (b off n cap : Nat) (bs : List UInt8) (w : World) (hlen : bs.length = n) (hsrc : From w (some ⟨b, off, none⟩) bs) (hbw : b < w.heap.size) (hsm : n ≤ 140737488355328) (hrm : n ≤ cap) :
    Calls Try.prog 19 #[.slice (some ⟨b, off, none⟩) n cap] w (DecQPost (whole request bs) w) := by
  have hmf : ∀ (fn : Fn) (first cap : Array Value) (w : World), (Instr.makeFunc fn first cap).run Try.prog w = .ok (.func fn first cap) w := fun _ _ _ _ => rfl
  have hb1 : Below w.heap.size w ((((w.alloc (.cells zeroQ 29)).alloc (.cells zeroO 31)).alloc (.cells zeroQ 29)).alloc (.cells zeroO 31)) := by go_grown
  have n0 : Blk ((((w.alloc (.cells zeroQ 29)).alloc (.cells zeroO 31)).alloc (.cells zeroQ 29)).alloc (.cells zeroO 31)) w.heap.size zeroQ 29 := by
    unfold Blk
    rw [Below.heap_alloc _ _ _ (by simp; omega), Below.heap_alloc _ _ _ (by first | (simp; done) | (simp; omega)), Below.heap_alloc _ _ _ (by simp)]; exact heap_alloc_new w _
  have n1 : Blk ((((w.alloc (.cells zeroQ 29)).alloc (.cells zeroO 31)).alloc (.cells zeroQ 29)).alloc (.cells zeroO 31)) (w.heap.size + 1) zeroO 31 := by
    unfold Blk
    rw [Below.heap_alloc _ _ _ (by first | (simp; done) | (simp; omega)), Below.heap_alloc _ _ _ (by simp)]; simpa using heap_alloc_new (w.alloc (.cells zeroQ 29)) (.cells zeroO 31)
  have n2 : Blk ((((w.alloc (.cells zeroQ 29)).alloc (.cells zeroO 31)).alloc (.cells zeroQ 29)).alloc (.cells zeroO 31)) (w.heap.size + 1 + 1) zeroQ 29 := by
    unfold Blk
    rw [Below.heap_alloc _ _ _ (by simp)]; simpa using heap_alloc_new ((w.alloc (.cells zeroQ 29)).alloc (.cells zeroO 31)) (.cells zeroQ 29)
  have n3 : Blk ((((w.alloc (.cells zeroQ 29)).alloc (.cells zeroO 31)).alloc (.cells zeroQ 29)).alloc (.cells zeroO 31)) (w.heap.size + 1 + 1 + 1) zeroO 31 := by
    unfold Blk
    simpa using heap_alloc_new (((w.alloc (.cells zeroQ 29)).alloc (.cells zeroO 31)).alloc (.cells zeroQ 29)) (.cells zeroO 31)
  have hz : ((((w.alloc (.cells zeroQ 29)).alloc (.cells zeroO 31)).alloc (.cells zeroQ 29)).alloc (.cells zeroO 31)).heap.size = w.heap.size + 4 := by simp
  go_enter Try.func19, Try.ntmps19
  go_wp2_with fail
  rw [zeroQ_is, zeroO_is]
  have hrd := read_any request (fun x w' => Blk w' (w.heap.size + 1 + 1) (callCells x.1) 29 ∧ Blk w' (w.heap.size + 1 + 1 + 1) (opCells x.2) 31) 41 (w.heap.size + 2) b off n cap #[.pointer (some ⟨w.heap.size + 1 + 1, 0, none⟩), .pointer (some ⟨w.heap.size + 1 + 1 + 1, 0, none⟩)] bs ((((w.alloc (.cells zeroQ 29)).alloc (.cells zeroO 31)).alloc (.cells zeroQ 29)).alloc (.cells zeroO 31)) enter40 hlen
    (hsrc.keep (fun b' o' e => by cases e; exact hb1.block _ hbw)) (by omega) hsm hrm (by omega)
    (fun m w' w'' hk hM => ⟨(hk _ hM.1.lt (by omega)).trans hM.1, (hk _ hM.2.lt (by omega)).trans hM.2⟩)
    (fun w2 hS2 hb2 hz2 => by
      rw [hz] at *
      exact clo40 (w.heap.size + 4) (w.heap.size + 2) (w.heap.size + 1 + 1) (w.heap.size + 1 + 1 + 1) b off n cap bs w2 hS2 ((hb2.block _ (by omega)).trans n2) ((hb2.block _ (by omega)).trans n3) (by omega) (by omega) (by omega) (by omega) (by omega) (by omega) hz2)
  generalize (((w.alloc (.cells zeroQ 29)).alloc (.cells zeroO 31)).alloc (.cells zeroQ 29)).alloc (.cells zeroO 31) = w1 at *
  refine hrd.mono ?_
  rintro e w2 ⟨hbl, h⟩
  have hbB : Below w.heap.size w w2 := hb1.trans (hbl.mono (by omega))
  have hB0 : Blk w2 w.heap.size zeroQ 29 := (hbl.block _ (by omega)).trans n0
  have hB1 : Blk w2 (w.heap.size + 1) zeroO 31 := (hbl.block _ (by omega)).trans n1
  clear hrd n0 n1 n2 n3 hbl hb1 hz
  have r0 : w2.cell? ⟨w.heap.size, 0, none⟩ = some (.int .i64 0) := by rw [hB0.cell]; rfl
  have r1 : w2.cell? ⟨w.heap.size, 1, none⟩ = some (.int .i64 0) := by rw [hB0.cell]; rfl
  have s0 : w2.cell? ⟨w.heap.size + 1, 0, none⟩ = some (.int .i64 0) := by rw [hB1.cell]; rfl
  have s1 : w2.cell? ⟨w.heap.size + 1, 1, none⟩ = some (.string ⟨#[]⟩) := by rw [hB1.cell]; rfl
  have s2 : w2.cell? ⟨w.heap.size + 1, 2, none⟩ = some (.int .i64 0) := by rw [hB1.cell]; rfl
  have s3 : w2.cell? ⟨w.heap.size + 1, 3, none⟩ = some (.int .i64 0) := by rw [hB1.cell]; rfl
  have f0 := hB0.frozen 0
  have f1 := hB0.frozen 1
  have g0 := hB1.frozen 0
  have g1 := hB1.frozen 1
  have g2 := hB1.frozen 2
  have g3 := hB1.frozen 3
  cases hr : whole request bs with
  | error k =>
    rw [hr] at h
    subst h
    have HR : Hid _ := hr
    clear hr
    generalize hLL : w.heap.size = L at *
    go_wp2
    obtain ⟨l1, l2, l3⟩ := laid6 w2 L 0 0 0 [] 0 0 hB0 hB1
    refine bodyPost_ret (results_cell22 Try.results19 _ _ L (L + 1) zeroQ zeroO rfl (run_loadVar_row _ _ 29 29 zeroQ (0, 0) _ l1 Try.underlying29 rfl (by kernel_rfl)) rfl (run_loadVar_row _ _ 31 31 zeroO (0, 0) _ l2 Try.underlying31 rfl (by kernel_rfl))) rfl ?_
    refine ⟨by rw [hLL]; exact l3 w hbB, ?_⟩
    rw [HR.out]
    rfl
  | ok v =>
    obtain ⟨x, k⟩ := v
    rw [hr] at h
    obtain ⟨rfl, hM1, hM2⟩ := h
    obtain ⟨⟨c, i⟩, o, nm, oa, ob⟩ := x
    have t0 : w2.cell? ⟨w.heap.size + 1 + 1, 0, none⟩ = some (.int .i64 c) := by rw [hM1.cell]; rfl
    have t1 : w2.cell? ⟨w.heap.size + 1 + 1, 1, none⟩ = some (.int .i64 i) := by rw [hM1.cell]; rfl
    have u0 : w2.cell? ⟨w.heap.size + 1 + 1 + 1, 0, none⟩ = some (.int .i64 o) := by rw [hM2.cell]; rfl
    have u1 : w2.cell? ⟨w.heap.size + 1 + 1 + 1, 1, none⟩ = some (.string ⟨nm.toArray⟩) := by rw [hM2.cell]; rfl
    have u2 : w2.cell? ⟨w.heap.size + 1 + 1 + 1, 2, none⟩ = some (.int .i64 oa) := by rw [hM2.cell]; rfl
    have u3 : w2.cell? ⟨w.heap.size + 1 + 1 + 1, 3, none⟩ = some (.int .i64 ob) := by rw [hM2.cell]; rfl
    have HR : Hid _ := hr
    clear hr
    generalize hLL : w.heap.size = L at *
    go_wp2
    have fin : ∀ (tm : Array Value) (W : World), tm.getD 2 undef = .pointer (some ⟨L, 0, none⟩) → tm.getD 3 undef = .pointer (some ⟨L + 1, 0, none⟩) → tm.getD 4 undef = .int .i64 0 → tm.getD 5 undef = .int .i64 0 →
        Blk W L (callCells (c, i)) 29 → Blk W (L + 1) (opCells (o, nm, oa, ob)) 31 → Below L w W → bodyPost Try.prog Try.f19 (DecQPost (whole request bs) w) Exit.ret { tmps := tm, defers := [] } W.drew := by
      intro tm W t2 t3 t4 t5 l1 l2 l3
      refine bodyPost_ret (results_cell22 Try.results19 _ _ L (L + 1) (callCells (c, i)) (opCells (o, nm, oa, ob)) t2 (run_loadVar_row _ _ 29 29 _ (0, 0) _ l1 Try.underlying29 rfl (by kernel_rfl)) t3 (run_loadVar_row _ _ 31 31 _ (0, 0) _ l2 Try.underlying31 rfl (by kernel_rfl))) rfl ?_
      refine ⟨by rw [hLL]; exact l3.drew, ?_⟩
      rw [HR.out, t4, t5]
    have HF : Hid _ := fin
    clear fin
    obtain ⟨l1, l2, l3⟩ := laid6 w2 L c i o nm oa ob hB0 hB1
    have L1 : Hid _ := l1
    have L2 : Hid _ := l2
    have L3 : Hid _ := l3
    clear l1 l2 l3
    go_region
    all_goals
      go_wp2
      exact HF.out _ _ rfl rfl rfl rfl L1.out L2.out (L3.out w hbB)
end Go.Proofs.Ytneiomimjgfbpaa
namespace Go.Proofs.Ytneiomimjgfbpaa
open Go.RowKit Go.PlainAid
theorem enter39 (args : Array Value) (w : World) : (callFunc 40 args).run Try.prog w = .ok (.enter 40 args) w := by simp [go_sem]
theorem enter45 (args : Array Value) (w : World) : (callFunc 46 args).run Try.prog w = .ok (.enter 46 args) w := by simp [go_sem]
set_option maxRecDepth 100000 in
set_option maxHeartbeats 1600000 in
theorem clo39 (hb b : Nat) (m : Seg) (ao : Option Addr) (cv : Nat) (w : World) (v : Value) (hS : WSt hb v [] w) (hM : Blk w b (segCells m.src m.dst m.seq m.ack (.slice ao m.data.length cv)) 46) (hb' : b < hb)
    (hnil : ao = none → m.data.length = 0 ∧ cv = 0) (hsrc : From w ao m.data) (hsb : ∀ b1 o1, ao = some ⟨b1, o1, none⟩ → b1 < hb) (hs : m.data.length ≤ 140000000000000) :
    Calls Try.prog 40 #[WH hb, .pointer (some ⟨b, 0, none⟩)] w (WPost hb [] w (segment.wr m)) := by
  have c : ∀ j x, (segCells m.src m.dst m.seq m.ack (.slice ao m.data.length cv))[j]? = some x → w.cell? ⟨b, j, none⟩ = some x := fun j x h => (hM.cell j).trans h
  have hm := segment_w hb b 0 v [] m.src m.dst m.seq m.ack ao m.data.length cv m.data w hS (c 0 _ rfl) (c 1 _ rfl) (c 2 _ rfl) (c 3 _ rfl) (c 4 _ rfl) rfl hnil hsrc hsb hs hb' (by simp)
  unfold WH at *
  clear c
  go_enter Try.func40, Try.ntmps40
  go_wp2_with fail
  refine hm.mono ?_
  rintro e1 w1 ⟨hst, h⟩
  have he : (⟨m.src, m.dst, m.seq, m.ack, m.data⟩ : Seg) = m := rfl
  rw [he] at h
  cases hr : segment.wr m with
  | none =>
    rw [hr] at h
    subst h
    exact ⟨rfl, hst, rfl⟩
  | some bs =>
    rw [hr] at h
    obtain ⟨rfl, v1, hS1⟩ := h
    have HR : Hid _ := hr
    clear hr hm
    go_wp2
    go_end0
    exact ⟨hst, by rw [HR.out]; exact ⟨rfl, v1, hS1⟩⟩
set_option maxRecDepth 100000 in
set_option maxHeartbeats 1600000 in
theorem clo45 (hb b : Nat) (r : (Int × Int) × Int × Int) (w : World) (v : Value) (hS : WSt hb v [] w) (hM : Blk w b (repCells r) 55) (hb' : b < hb) (hy1 : (-9223372036854775808 : Int) ≤ r.2.2) (hy2 : r.2.2 < 9223372036854775808) :
    Calls Try.prog 46 #[WH hb, .pointer (some ⟨b, 0, none⟩)] w (WPost hb [] w (reply.wr r)) := by
  have c : ∀ j x, (repCells r)[j]? = some x → w.cell? ⟨b, j, none⟩ = some x := fun j x h => (hM.cell j).trans h
  have hm := reply_w hb b 0 v [] r.1.1 r.1.2 r.2.1 r.2.2 w hS (c 0 _ rfl) (c 1 _ rfl) (c 2 _ rfl) (c 3 _ rfl) hb' hy1 hy2 (by simp)
  unfold WH at *
  clear c
  go_enter Try.func46, Try.ntmps46
  go_wp2_with fail
  refine hm.mono ?_
  rintro e1 w1 ⟨hst, h⟩
  have he : (((r.1.1, r.1.2), r.2.1, r.2.2) : (Int × Int) × Int × Int) = r := rfl
  rw [he] at h
  cases hr : reply.wr r with
  | none =>
    rw [hr] at h
    subst h
    exact ⟨rfl, hst, rfl⟩
  | some bs =>
    rw [hr] at h
    obtain ⟨rfl, v1, hS1⟩ := h
    have HR : Hid _ := hr
    clear hr hm
    go_wp2
    go_end0
    exact ⟨hst, by rw [HR.out]; exact ⟨rfl, v1, hS1⟩⟩
set_option maxRecDepth 100000 in
set_option maxHeartbeats 1600000 in
theorem encodeSeg_any (m : Seg) (ao : Option Addr) (cv : Nat) (w : World) (hnil : ao = none → m.data.length = 0 ∧ cv = 0) (hsrc : From w ao m.data) (hsb : ∀ b1 o1, ao = some ⟨b1, o1, none⟩ → b1 < w.heap.size) (hs : m.data.length ≤ 140000000000000) :
    Calls Try.prog 18 #[.agg (segCells m.src m.dst m.seq m.ack (.slice ao m.data.length cv))] w (EncPost (segment.wr m) w) := by
  have hmf : ∀ (fn : Fn) (first cap : Array Value) (w : World), (Instr.makeFunc fn first cap).run Try.prog w = .ok (.func fn first cap) w := fun _ _ _ _ => rfl
  generalize hD : segCells m.src m.dst m.seq m.ack (.slice ao m.data.length cv) = D
  have hsz : D.size = 5 := by rw [← hD]; rfl
  have hb1 : Below w.heap.size w (w.alloc (.cells D 46)) := by go_grown
  have n0 : Blk (w.alloc (.cells D 46)) w.heap.size D 46 := heap_alloc_new w _
  have hz1 : (w.alloc (.cells D 46)).heap.size = w.heap.size + 1 := by simp
  have hwr := write_any 40 #[.pointer (some ⟨w.heap.size, 0, none⟩)] (segment.wr m) (w.alloc (.cells D 46)) enter39 (fun w2 hS2 hb2 => by
    rw [hz1] at *
    exact clo39 _ w.heap.size m ao cv w2 _ hS2 (by rw [hD]; exact (hb2.block _ (by omega)).trans n0) (by omega) hnil (hsrc.keep fun b1 o1 e => (hb2.block b1 (by have := hsb b1 o1 e; omega)).trans (hb1.block b1 (hsb b1 o1 e))) (fun b1 o1 e => by have := hsb b1 o1 e; omega) hs)
  clear hD
  go_enter Try.func18, Try.ntmps18
  go_wp2_with fail
  refine hwr.mono ?_
  rintro e1 w1 h
  have h2 := enc_post h hb1
  clear hwr h
  generalize segment.wr m = r at *
  cases r with
  | none =>
    obtain ⟨hbl, rfl⟩ := h2
    go_wp2
    go_ret2
    exact ⟨hbl, rfl⟩
  | some bs =>
    obtain ⟨hbl, vv, rfl, hv⟩ := h2
    obtain ⟨ao1, cap1, rfl, _, _, _, _⟩ := own_from hv
    go_wp2
    go_ret2
    exact ⟨hbl, _, rfl, hv⟩
set_option maxRecDepth 100000 in
set_option maxHeartbeats 1600000 in
theorem encodeRep_any (r : (Int × Int) × Int × Int) (w : World) (hy1 : (-9223372036854775808 : Int) ≤ r.2.2) (hy2 : r.2.2 < 9223372036854775808) :
    Calls Try.prog 22 #[.agg (repCells r)] w (EncPost (reply.wr r) w) := by
  have hmf : ∀ (fn : Fn) (first cap : Array Value) (w : World), (Instr.makeFunc fn first cap).run Try.prog w = .ok (.func fn first cap) w := fun _ _ _ _ => rfl
  generalize hD : repCells r = D
  have hsz : D.size = 4 := by rw [← hD]; rfl
  have hb1 : Below w.heap.size w (w.alloc (.cells D 55)) := by go_grown
  have n0 : Blk (w.alloc (.cells D 55)) w.heap.size D 55 := heap_alloc_new w _
  have hz1 : (w.alloc (.cells D 55)).heap.size = w.heap.size + 1 := by simp
  have hwr := write_any 46 #[.pointer (some ⟨w.heap.size, 0, none⟩)] (reply.wr r) (w.alloc (.cells D 55)) enter45 (fun w2 hS2 hb2 => by
    rw [hz1] at *
    exact clo45 _ w.heap.size r w2 _ hS2 (by rw [hD]; exact (hb2.block _ (by omega)).trans n0) (by omega) hy1 hy2)
  clear hD
  go_enter Try.func22, Try.ntmps22
  go_wp2_with fail
  refine hwr.mono ?_
  rintro e1 w1 h
  have h2 := enc_post h hb1
  clear hwr h
  generalize reply.wr r = r at *
  cases r with
  | none =>
    obtain ⟨hbl, rfl⟩ := h2
    go_wp2
    go_ret2
    exact ⟨hbl, rfl⟩
  | some bs =>
    obtain ⟨hbl, vv, rfl, hv⟩ := h2
    obtain ⟨ao1, cap1, rfl, _, _, _, _⟩ := own_from hv
    go_wp2
    go_ret2
    exact ⟨hbl, _, rfl, hv⟩
end Go.Proofs.Ytneiomimjgfbpaa
