import Derived.Test.YtfgnlfemckdfnaaWMsgA
import Derived.Test.YtfgnlfemckdfnaaWMsgB
import Derived.Test.YtfgnlfemckdfnaaWMsgC
import Derived.Test.YtfgnlfemckdfnaaWMsgD
import Derived.Test.YtfgnlfemckdfnaaWWrite
import Derived.Test.YtfgnlfemckdfnaaBare2
import Derived.Test.YtfgnlfemckdfnaaJE
namespace Go.Proofs.Ytfgnlfemckdfnaa
open Go.RowKit Go.PlainAid
def hasM (m : Msg) : Int := if m.kind = 2 then (if hasCap m.err then 29 else 13) else hasOf m.kind
def bodyW (m : Msg) : Option (List UInt8) :=
  if m.kind = 1 then join (call.wr (m.session, m.id)) (op.wr (m.okind, m.oname, m.oa, m.ob))
  else if m.kind = 2 then (if hasCap m.err then join (call.wr (m.session, m.id)) (join ((name []).wr m.name) (join (errno.wr m.err) (caps.wr (m.cap, m.recaps)))) else join (call.wr (m.session, m.id)) (join ((name []).wr m.name) (errno.wr m.err)))
  else if m.kind = 3 then join ((name []).wr m.name) (join (caps.wr (m.cap, m.recaps)) (epoch.wr (m.round, m.rank)))
  else if m.kind = 4 then join ((name []).wr m.name) (join (caps.wr (m.cap, m.recaps)) (join (epoch.wr (m.round, m.rank)) (join (rights.wr (m.down, m.up)) (held.wr m.held))))
  else if m.kind = 7 then join ((name []).wr m.name) (join (caps.wr (m.cap, m.recaps)) (join (epoch.wr (m.round, m.rank)) (epoch.wr (m.oround, m.orank))))
  else if m.kind = 8 ∨ m.kind = 9 then join ((name []).wr m.name) (join (caps.wr (m.cap, m.recaps)) (rights.wr (m.down, m.up)))
  else if m.kind = 10 then views.wr m.views
  else join ((name []).wr m.name) (join (caps.wr (m.cap, m.recaps)) (join (epoch.wr (m.round, m.rank)) (rights.wr (m.down, m.up))))
def fieldsW (m : Msg) : Option (List UInt8) := join ((num 1 10).wr m.kind) (bodyW m)
structure Fit (m : Msg) : Prop where
  name : m.name.length ≤ 140737488355328
  oname : m.oname.length ≤ 140737488355328
  a1 : (-9223372036854775808 : Int) ≤ m.oa
  a2 : m.oa < 9223372036854775808
  b1 : (-9223372036854775808 : Int) ≤ m.ob
  b2 : m.ob < 9223372036854775808
  views : m.views.length ≤ 140000000000000
  names : ∀ x ∈ m.views, x.name.length ≤ 140737488355328
set_option maxRecDepth 100000 in
set_option maxHeartbeats 1600000 in
theorem message_w (hb b : Nat) (v : Value) (out : List UInt8) (m : Msg) (ao : Option Addr) (cv : Nat) (w : World) (hS : WSt hb v out w) (hM : Blk w b (msgCells m (.slice ao m.views.length cv)) 35) (hb' : b < hb) (hf : Fit m)
    (hsrc : VFrom w ao m.views) (hsb : ∀ b1 o1, ao = some ⟨b1, o1, none⟩ → 0 < m.views.length → b1 < hb) (hl : out.length ≤ 800000) :
    Calls Try.prog 32 #[WH hb, .pointer (some ⟨b, 0, none⟩)] w (WPostR hb out w (fieldsW m) (.int .u64 (hasM m))) := by
  have c : ∀ j x, (msgCells m (.slice ao m.views.length cv))[j]? = some x → w.cell? ⟨b, j, none⟩ = some x := fun j x h => (hM.cell j).trans h
  by_cases hk : 1 ≤ m.kind ∧ m.kind ≤ 10
  · unfold hasM fieldsW bodyW
    have k0 : w.cell? ⟨b, 0, none⟩ = some (.int .i64 m.kind) := c 0 _ rfl
    rcases (show m.kind = 1 ∨ m.kind = 2 ∨ m.kind = 3 ∨ m.kind = 4 ∨ m.kind = 5 ∨ m.kind = 6 ∨ m.kind = 7 ∨ m.kind = 8 ∨ m.kind = 9 ∨ m.kind = 10 from by omega) with e | e | e | e | e | e | e | e | e | e <;> rw [e] at k0 ⊢
    · exact msg1_w hb b v out m.oname m.session m.id m.okind m.oa m.ob w hS k0 (c 11 _ rfl) (c 12 _ rfl) (c 13 _ rfl) (c 14 _ rfl) (c 15 _ rfl) (c 16 _ rfl) hb' hf.oname hf.a1 hf.a2 hf.b1 hf.b2 hl _ (by simp)
    · have her : w.cell? ⟨b, 17, none⟩ = some (.int .i64 m.err) := c 17 _ rfl
      by_cases h0 : m.err = 0
      · rw [h0] at her ⊢
        exact msg2z_w hb b v out m.name m.session m.id m.cap m.recaps w hS k0 (c 11 _ rfl) (c 12 _ rfl) (c 1 _ rfl) her (c 2 _ rfl) (c 3 _ rfl) hb' hf.name hl _ (by simp [hasCap])
      · by_cases h1 : m.err = 101
        · rw [h1] at her ⊢
          exact msg2x_w hb b v out m.name m.session m.id m.cap m.recaps w hS k0 (c 11 _ rfl) (c 12 _ rfl) (c 1 _ rfl) her (c 2 _ rfl) (c 3 _ rfl) hb' hf.name hl _ (by simp [hasCap])
        · have hc : hasCap m.err = false := by simp [hasCap, h0, h1]
          rw [hc]
          exact msg2n_w hb b v out m.name m.session m.id m.err w hS k0 (c 11 _ rfl) (c 12 _ rfl) (c 1 _ rfl) her hb' hf.name (by rw [beq_eq_false_iff_ne]; exact h0) (by rw [beq_eq_false_iff_ne]; exact h1) hl _ (by simp)
    · exact msg3_w hb b v out m.name m.cap m.recaps m.round m.rank w hS k0 (c 1 _ rfl) (c 2 _ rfl) (c 3 _ rfl) (c 4 _ rfl) (c 5 _ rfl) hb' hf.name hl _ (by simp)
    · exact msg4_w hb b v out m.name m.cap m.recaps m.round m.rank m.down m.up m.held w hS k0 (c 1 _ rfl) (c 2 _ rfl) (c 3 _ rfl) (c 4 _ rfl) (c 5 _ rfl) (c 8 _ rfl) (c 9 _ rfl) (c 10 _ rfl) hb' hf.name hl _ (by simp)
    · exact msg5_w hb b v out m.name m.cap m.recaps m.round m.rank m.down m.up w hS k0 (c 1 _ rfl) (c 2 _ rfl) (c 3 _ rfl) (c 4 _ rfl) (c 5 _ rfl) (c 8 _ rfl) (c 9 _ rfl) hb' hf.name hl _ (by simp)
    · exact msg6_w hb b v out m.name m.cap m.recaps m.round m.rank m.down m.up w hS k0 (c 1 _ rfl) (c 2 _ rfl) (c 3 _ rfl) (c 4 _ rfl) (c 5 _ rfl) (c 8 _ rfl) (c 9 _ rfl) hb' hf.name hl _ (by simp)
    · exact msg7_w hb b v out m.name m.cap m.recaps m.round m.rank m.oround m.orank w hS k0 (c 1 _ rfl) (c 2 _ rfl) (c 3 _ rfl) (c 4 _ rfl) (c 5 _ rfl) (c 6 _ rfl) (c 7 _ rfl) hb' hf.name hl _ (by simp)
    · exact msg8_w hb b v out m.name m.cap m.recaps m.down m.up w hS k0 (c 1 _ rfl) (c 2 _ rfl) (c 3 _ rfl) (c 8 _ rfl) (c 9 _ rfl) hb' hf.name hl _ (by simp)
    · exact msg9_w hb b v out m.name m.cap m.recaps m.down m.up w hS k0 (c 1 _ rfl) (c 2 _ rfl) (c 3 _ rfl) (c 8 _ rfl) (c 9 _ rfl) hb' hf.name hl _ (by simp)
    · exact msg10_w hb b v out ao m.views.length cv m.views w hS k0 (c 19 _ rfl) hb' rfl hsrc hsb hf.views hf.names hl _ (by simp)
  · have hn : (num 1 10).wr m.kind = none := by
      simp only [num]; rw [if_neg (by simp only [Bool.and_eq_true, decide_eq_true_eq]; omega)]
    have hfw : fieldsW m = none := by unfold fieldsW; rw [hn]; rfl
    have A1 := ahead_num_w ⟨hb, 0, none⟩
    have k0 : w.cell? ⟨b, 0, none⟩ = some (.int .i64 m.kind) := c 0 _ rfl
    rw [hfw]
    unfold WH
    clear c hM
    go_enter Try.func32, Try.ntmps32
    go_wp2_with fail
    try go_region_dies
    refine (number_w hb b 0 1 10 v out m.kind 1 10 _ (by first | exact hS | exact hS.drew) (by exact k0) rfl rfl (by decide) (by omega)).mono ?_
    rw [hn]
    rintro e1 w1 ⟨hsd, rfl⟩
    have hst : WStep hb w w1 := by first | exact hsd | exact hsd.ofDrew
    exact ⟨rfl, hst, rfl⟩
theorem enter35 (args : Array Value) (w : World) : (callFunc 35 args).run Try.prog w = .ok (.enter 35 args) w := by simp [go_sem]
def encM (m : Msg) : Option (List UInt8) := match fieldsW m with
  | none => none
  | some bs => if bareB m m.views.length (hasM m) then some bs else none
set_option maxRecDepth 100000 in
set_option maxHeartbeats 1600000 in
theorem clo35 (hb b : Nat) (m : Msg) (ao : Option Addr) (cv : Nat) (w : World) (v : Value) (hS : WSt hb v [] w) (hM : Blk w b (msgCells m (.slice ao m.views.length cv)) 35) (hb' : b < hb) (hf : Fit m)
    (hsrc : VFrom w ao m.views) (hsb : ∀ b1 o1, ao = some ⟨b1, o1, none⟩ → 0 < m.views.length → b1 < hb) :
    Calls Try.prog 35 #[WH hb, .pointer (some ⟨b, 0, none⟩)] w (WPost hb [] w (encM m)) := by
  have hm := message_w hb b v [] m ao cv w hS hM hb' hf hsrc hsb (by simp)
  unfold WH at *
  go_enter Try.func35, Try.ntmps35
  go_wp2_with fail
  refine hm.mono ?_
  rintro e1 w1 ⟨hst, h⟩
  cases hr : fieldsW m with
  | none =>
    rw [hr] at h
    subst h
    have hn : encM m = none := by simp only [encM, hr]
    exact ⟨rfl, hst, by rw [hn]; rfl⟩
  | some bs =>
    rw [hr] at h
    obtain ⟨rfl, v1, hS1⟩ := h
    have hM1 : Blk w1 b (msgCells m (.slice ao m.views.length cv)) 35 := (hst.below.block b hb').trans hM
    have hn : encM m = if bareB m m.views.length (hasM m) then some bs else none := by simp only [encM, hr]
    have hba := bare_any m ao m.views.length cv (hasM m) w1
    have hlt := hS1.lt
    have HN : Hid _ := hn
    clear hn hr hm
    generalize hD : msgCells m (.slice ao m.views.length cv) = D at *
    have hsz : D.size = 20 := by rw [← hD]; rfl
    have hi35 : (Try.prog.info? 35).map (·.size) = some D.size := by rw [hsz]; kernel_rfl
    clear hD
    go_wp2_with (first | (refine wpList_load_row rfl 35 (.tmp 1) rfl b rfl 35 D (0, 0) _ hM1 Try.underlying35 rfl hi35 ?_) | fail)
    refine hba.mono ?_
    rintro e2 w2 ⟨rfl, hbl⟩
    have hS2 : WSt hb v1 ([] ++ bs) w2 := ⟨(hbl.block _ hlt).trans hS1.blk, own_stable hS1.own fun k _ hk => hbl.block k hk⟩
    have hst2 : WStep hb w w2 := hst.trans ⟨hbl.mono (by omega), fun k _ _ _ hk _ _ => hbl.block k (Array.getElem?_eq_some_iff.1 hk).1⟩
    clear hba hM1 hi35 hS1 hst hbl
    by_cases hg : bareB m m.views.length (hasM m) = true
    · rw [if_pos hg] at HN
      rw [hg]
      have hnot : ∀ (x : Bool) (w : World), (Op.unary .not (.bool x)).run Try.prog w = .ok (.bool (!x)) w := fun _ _ => rfl
      go_wp2
      go_end0
      exact ⟨hst2, by rw [HN.out]; exact ⟨rfl, v1, hS2⟩⟩
    · rw [if_neg hg] at HN
      rw [show bareB m m.views.length (hasM m) = false from by simpa using hg]
      have hnot : ∀ (x : Bool) (w : World), (Op.unary .not (.bool x)).run Try.prog w = .ok (.bool (!x)) w := fun _ _ => rfl
      go_wp2
      exact ⟨rfl, hst2, by rw [HN.out]; rfl⟩
def EncPost (r : Option (List UInt8)) (w : World) (e : Ending) (w' : World) : Prop := Below w.heap.size w w' ∧ match r with
    | none => e = .returned (.tuple #[.slice none 0 0, .int .i64 21])
    | some bs => ∃ v, e = .returned (.tuple #[v, .int .i64 0]) ∧ w'.ownsRow w.heap.size 5 1 v bs.length (bs.map B)
theorem enc_post {r : Option (List UInt8)} {w1 w : World} {e : Ending} {w' : World} (h : WDone r w1 e w') (hb : Below w.heap.size w w1) : EncPost r w e w' := by
  obtain ⟨h1, h2⟩ := h
  refine ⟨hb.trans (h1.mono hb.size), ?_⟩
  cases r with
  | none => exact h2
  | some bs =>
    obtain ⟨v, h3, h4⟩ := h2
    exact ⟨v, h3, own_mono h4 hb.size⟩
set_option maxRecDepth 100000 in
set_option maxHeartbeats 1600000 in
theorem encode_any (m : Msg) (ao : Option Addr) (cv : Nat) (w : World) (hf : Fit m) (hsrc : VFrom w ao m.views) (hsb : ∀ b1 o1, ao = some ⟨b1, o1, none⟩ → 0 < m.views.length → b1 < w.heap.size) :
    Calls Try.prog 14 #[.agg (msgCells m (.slice ao m.views.length cv))] w (EncPost (encM m) w) := by
  have hmf : ∀ (fn : Fn) (first cap : Array Value) (w : World), (Instr.makeFunc fn first cap).run Try.prog w = .ok (.func fn first cap) w := fun _ _ _ _ => rfl
  generalize hD : msgCells m (.slice ao m.views.length cv) = D
  have hsz : D.size = 20 := by rw [← hD]; rfl
  have hb1 : Below w.heap.size w (w.alloc (.cells D 35)) := by go_grown
  have n0 : Blk (w.alloc (.cells D 35)) w.heap.size D 35 := heap_alloc_new w _
  have hz1 : (w.alloc (.cells D 35)).heap.size = w.heap.size + 1 := by simp
  have hwr := write_any 35 #[.pointer (some ⟨w.heap.size, 0, none⟩)] (encM m) (w.alloc (.cells D 35)) enter35 (fun w2 hS2 hb2 => by
    rw [hz1] at *
    refine clo35 _ w.heap.size m ao cv w2 _ hS2 (by rw [hD]; exact (hb2.block _ (by omega)).trans n0) (by omega) hf (hsrc.keep fun b1 o1 e h0 => (hb2.block b1 (by have := hsb b1 o1 e h0; omega)).trans (hb1.block b1 (hsb b1 o1 e h0))) (fun b1 o1 e h0 => by have := hsb b1 o1 e h0; omega))
  clear hD hsrc
  go_enter Try.func14, Try.ntmps14
  go_wp2_with fail
  refine hwr.mono ?_
  rintro e1 w1 h
  have h2 := enc_post h hb1
  clear hwr h
  generalize encM m = r at *
  cases r with
  | none =>
    obtain ⟨hbl, rfl⟩ := h2
    go_wp2
    go_ret2
    exact ⟨hbl, rfl⟩
  | some bs =>
    obtain ⟨hbl, vv, rfl, hv⟩ := h2
    obtain ⟨ao1, cap1, rfl, _, _, _, _⟩ := own_from hv
    go_wp2
    go_ret2
    exact ⟨hbl, _, rfl, hv⟩
end Go.Proofs.Ytfgnlfemckdfnaa
namespace Go.Proofs.Ytfgnlfemckdfnaa
open Go.RowKit Go.PlainAid
theorem enter39 (args : Array Value) (w : World) : (callFunc 39 args).run Try.prog w = .ok (.enter 39 args) w := by simp [go_sem]
theorem enter42 (args : Array Value) (w : World) : (callFunc 42 args).run Try.prog w = .ok (.enter 42 args) w := by simp [go_sem]
theorem enter45 (args : Array Value) (w : World) : (callFunc 45 args).run Try.prog w = .ok (.enter 45 args) w := by simp [go_sem]
set_option maxRecDepth 100000 in
set_option maxHeartbeats 1600000 in
theorem clo39 (hb b : Nat) (m : Seg) (ao : Option Addr) (cv : Nat) (w : World) (v : Value) (hS : WSt hb v [] w) (hM : Blk w b (segCells m.src m.dst m.seq m.ack (.slice ao m.data.length cv)) 46) (hb' : b < hb)
    (hnil : ao = none → m.data.length = 0 ∧ cv = 0) (hsrc : From w ao m.data) (hsb : ∀ b1 o1, ao = some ⟨b1, o1, none⟩ → 0 < m.data.length → b1 < hb) (hs : m.data.length ≤ 140000000000000) :
    Calls Try.prog 39 #[WH hb, .pointer (some ⟨b, 0, none⟩)] w (WPost hb [] w (segment.wr m)) := by
  have c : ∀ j x, (segCells m.src m.dst m.seq m.ack (.slice ao m.data.length cv))[j]? = some x → w.cell? ⟨b, j, none⟩ = some x := fun j x h => (hM.cell j).trans h
  have hm := segment_w hb b 0 v [] m.src m.dst m.seq m.ack ao m.data.length cv m.data w hS (c 0 _ rfl) (c 1 _ rfl) (c 2 _ rfl) (c 3 _ rfl) (c 4 _ rfl) rfl hnil hsrc hsb hs hb' (by simp)
  unfold WH at *
  clear c
  go_enter Try.func39, Try.ntmps39
  go_wp2_with fail
  refine hm.mono ?_
  rintro e1 w1 ⟨hst, h⟩
  have he : (⟨m.src, m.dst, m.seq, m.ack, m.data⟩ : Seg) = m := rfl
  rw [he] at h
  cases hr : segment.wr m with
  | none =>
    rw [hr] at h
    subst h
    exact ⟨rfl, hst, rfl⟩
  | some bs =>
    rw [hr] at h
    obtain ⟨rfl, v1, hS1⟩ := h
    have HR : Hid _ := hr
    clear hr hm
    go_wp2
    go_end0
    exact ⟨hst, by rw [HR.out]; exact ⟨rfl, v1, hS1⟩⟩
set_option maxRecDepth 100000 in
set_option maxHeartbeats 1600000 in
theorem clo45 (hb b : Nat) (r : (Int × Int) × Int × Int) (w : World) (v : Value) (hS : WSt hb v [] w) (hM : Blk w b (repCells r) 55) (hb' : b < hb) (hy1 : (-9223372036854775808 : Int) ≤ r.2.2) (hy2 : r.2.2 < 9223372036854775808) :
    Calls Try.prog 45 #[WH hb, .pointer (some ⟨b, 0, none⟩)] w (WPost hb [] w (reply.wr r)) := by
  have c : ∀ j x, (repCells r)[j]? = some x → w.cell? ⟨b, j, none⟩ = some x := fun j x h => (hM.cell j).trans h
  have hm := reply_w hb b 0 v [] r.1.1 r.1.2 r.2.1 r.2.2 w hS (c 0 _ rfl) (c 1 _ rfl) (c 2 _ rfl) (c 3 _ rfl) hb' hy1 hy2 (by simp)
  unfold WH at *
  clear c
  go_enter Try.func45, Try.ntmps45
  go_wp2_with fail
  refine hm.mono ?_
  rintro e1 w1 ⟨hst, h⟩
  have he : (((r.1.1, r.1.2), r.2.1, r.2.2) : (Int × Int) × Int × Int) = r := rfl
  rw [he] at h
  cases hr : reply.wr r with
  | none =>
    rw [hr] at h
    subst h
    exact ⟨rfl, hst, rfl⟩
  | some bs =>
    rw [hr] at h
    obtain ⟨rfl, v1, hS1⟩ := h
    have HR : Hid _ := hr
    clear hr hm
    go_wp2
    go_end0
    exact ⟨hst, by rw [HR.out]; exact ⟨rfl, v1, hS1⟩⟩
set_option maxRecDepth 100000 in
set_option maxHeartbeats 1600000 in
theorem clo42 (hb b b2 : Nat) (q : Int × Int) (o : Int × List UInt8 × Int × Int) (w : World) (v : Value) (hS : WSt hb v [] w) (hM : Blk w b (callCells q) 29) (hM2 : Blk w b2 (opCells o) 31) (hb' : b < hb) (hb2 : b2 < hb) (hn : o.2.1.length ≤ 140737488355328)
    (hx1 : (-9223372036854775808 : Int) ≤ o.2.2.1) (hx2 : o.2.2.1 < 9223372036854775808) (hy1 : (-9223372036854775808 : Int) ≤ o.2.2.2) (hy2 : o.2.2.2 < 9223372036854775808) :
    Calls Try.prog 42 #[WH hb, .pointer (some ⟨b, 0, none⟩), .pointer (some ⟨b2, 0, none⟩)] w (WPost hb [] w (request.wr (q, o))) := by
  have c : ∀ j x, (callCells q)[j]? = some x → w.cell? ⟨b, j, none⟩ = some x := fun j x h => (hM.cell j).trans h
  have c2 : ∀ j x, (opCells o)[j]? = some x → w.cell? ⟨b2, j, none⟩ = some x := fun j x h => (hM2.cell j).trans h
  have hm := request_w hb b 0 b2 0 v [] q.1 q.2 o.1 o.2.1 o.2.2.1 o.2.2.2 w hS (c 0 _ rfl) (c 1 _ rfl) (c2 0 _ rfl) (c2 1 _ rfl) (c2 2 _ rfl) (c2 3 _ rfl) hb' hb2 hn hx1 hx2 hy1 hy2 (by simp)
  unfold WH at *
  clear c c2
  go_enter Try.func42, Try.ntmps42
  go_wp2_with fail
  refine hm.mono ?_
  rintro e1 w1 ⟨hst, h⟩
  have he : (((q.1, q.2), o.1, o.2.1, o.2.2.1, o.2.2.2) : (Int × Int) × Int × List UInt8 × Int × Int) = (q, o) := rfl
  rw [he] at h
  cases hr : request.wr (q, o) with
  | none =>
    rw [hr] at h
    subst h
    exact ⟨rfl, hst, rfl⟩
  | some bs =>
    rw [hr] at h
    obtain ⟨rfl, v1, hS1⟩ := h
    have HR : Hid _ := hr
    clear hr hm
    go_wp2
    go_end0
    exact ⟨hst, by rw [HR.out]; exact ⟨rfl, v1, hS1⟩⟩
set_option maxRecDepth 100000 in
set_option maxHeartbeats 1600000 in
theorem encodeSeg_any (m : Seg) (ao : Option Addr) (cv : Nat) (w : World) (hnil : ao = none → m.data.length = 0 ∧ cv = 0) (hsrc : From w ao m.data) (hsb : ∀ b1 o1, ao = some ⟨b1, o1, none⟩ → 0 < m.data.length → b1 < w.heap.size) (hs : m.data.length ≤ 140000000000000) :
    Calls Try.prog 18 #[.agg (segCells m.src m.dst m.seq m.ack (.slice ao m.data.length cv))] w (EncPost (segment.wr m) w) := by
  have hmf : ∀ (fn : Fn) (first cap : Array Value) (w : World), (Instr.makeFunc fn first cap).run Try.prog w = .ok (.func fn first cap) w := fun _ _ _ _ => rfl
  generalize hD : segCells m.src m.dst m.seq m.ack (.slice ao m.data.length cv) = D
  have hsz : D.size = 5 := by rw [← hD]; rfl
  have hb1 : Below w.heap.size w (w.alloc (.cells D 46)) := by go_grown
  have n0 : Blk (w.alloc (.cells D 46)) w.heap.size D 46 := heap_alloc_new w _
  have hz1 : (w.alloc (.cells D 46)).heap.size = w.heap.size + 1 := by simp
  have hwr := write_any 39 #[.pointer (some ⟨w.heap.size, 0, none⟩)] (segment.wr m) (w.alloc (.cells D 46)) enter39 (fun w2 hS2 hb2 => by
    rw [hz1] at *
    exact clo39 _ w.heap.size m ao cv w2 _ hS2 (by rw [hD]; exact (hb2.block _ (by omega)).trans n0) (by omega) hnil (hsrc.keep0 fun b1 o1 e h0 => (hb2.block b1 (by have := hsb b1 o1 e h0; omega)).trans (hb1.block b1 (hsb b1 o1 e h0))) (fun b1 o1 e h0 => by have := hsb b1 o1 e h0; omega) hs)
  clear hD
  go_enter Try.func18, Try.ntmps18
  go_wp2_with fail
  refine hwr.mono ?_
  rintro e1 w1 h
  have h2 := enc_post h hb1
  clear hwr h
  generalize segment.wr m = r at *
  cases r with
  | none =>
    obtain ⟨hbl, rfl⟩ := h2
    go_wp2
    go_ret2
    exact ⟨hbl, rfl⟩
  | some bs =>
    obtain ⟨hbl, vv, rfl, hv⟩ := h2
    obtain ⟨ao1, cap1, rfl, _, _, _, _⟩ := own_from hv
    go_wp2
    go_ret2
    exact ⟨hbl, _, rfl, hv⟩
set_option maxRecDepth 100000 in
set_option maxHeartbeats 1600000 in
theorem encodeRep_any (r : (Int × Int) × Int × Int) (w : World) (hy1 : (-9223372036854775808 : Int) ≤ r.2.2) (hy2 : r.2.2 < 9223372036854775808) :
    Calls Try.prog 22 #[.agg (repCells r)] w (EncPost (reply.wr r) w) := by
  have hmf : ∀ (fn : Fn) (first cap : Array Value) (w : World), (Instr.makeFunc fn first cap).run Try.prog w = .ok (.func fn first cap) w := fun _ _ _ _ => rfl
  generalize hD : repCells r = D
  have hsz : D.size = 4 := by rw [← hD]; rfl
  have hb1 : Below w.heap.size w (w.alloc (.cells D 55)) := by go_grown
  have n0 : Blk (w.alloc (.cells D 55)) w.heap.size D 55 := heap_alloc_new w _
  have hz1 : (w.alloc (.cells D 55)).heap.size = w.heap.size + 1 := by simp
  have hwr := write_any 45 #[.pointer (some ⟨w.heap.size, 0, none⟩)] (reply.wr r) (w.alloc (.cells D 55)) enter45 (fun w2 hS2 hb2 => by
    rw [hz1] at *
    exact clo45 _ w.heap.size r w2 _ hS2 (by rw [hD]; exact (hb2.block _ (by omega)).trans n0) (by omega) hy1 hy2)
  clear hD
  go_enter Try.func22, Try.ntmps22
  go_wp2_with fail
  refine hwr.mono ?_
  rintro e1 w1 h
  have h2 := enc_post h hb1
  clear hwr h
  generalize reply.wr r = r at *
  cases r with
  | none =>
    obtain ⟨hbl, rfl⟩ := h2
    go_wp2
    go_ret2
    exact ⟨hbl, rfl⟩
  | some bs =>
    obtain ⟨hbl, vv, rfl, hv⟩ := h2
    obtain ⟨ao1, cap1, rfl, _, _, _, _⟩ := own_from hv
    go_wp2
    go_ret2
    exact ⟨hbl, _, rfl, hv⟩
set_option maxRecDepth 100000 in
set_option maxHeartbeats 1600000 in
theorem encodeReq_any (q : Int × Int) (o : Int × List UInt8 × Int × Int) (w : World) (hn : o.2.1.length ≤ 140737488355328)
    (hx1 : (-9223372036854775808 : Int) ≤ o.2.2.1) (hx2 : o.2.2.1 < 9223372036854775808) (hy1 : (-9223372036854775808 : Int) ≤ o.2.2.2) (hy2 : o.2.2.2 < 9223372036854775808) :
    Calls Try.prog 20 #[.agg (callCells q), .agg (opCells o)] w (EncPost (request.wr (q, o)) w) := by
  have hmf : ∀ (fn : Fn) (first cap : Array Value) (w : World), (Instr.makeFunc fn first cap).run Try.prog w = .ok (.func fn first cap) w := fun _ _ _ _ => rfl
  generalize hD : callCells q = D
  generalize hD2 : opCells o = D2
  have hsz : D.size = 2 := by rw [← hD]; rfl
  have hsz2 : D2.size = 4 := by rw [← hD2]; rfl
  have hb1 : Below w.heap.size w ((w.alloc (.cells D 29)).alloc (.cells D2 31)) := by go_grown
  have n0 : Blk ((w.alloc (.cells D 29)).alloc (.cells D2 31)) w.heap.size D 29 := (Below.heap_alloc _ _ _ (by simp)).trans (heap_alloc_new w _)
  have n1 : Blk ((w.alloc (.cells D 29)).alloc (.cells D2 31)) (w.heap.size + 1) D2 31 := by
    have := heap_alloc_new (w.alloc (.cells D 29)) (.cells D2 31)
    rw [World.size_alloc] at this
    exact this
  have hz1 : ((w.alloc (.cells D 29)).alloc (.cells D2 31)).heap.size = w.heap.size + 2 := by simp
  have hwr := write_any 42 #[.pointer (some ⟨w.heap.size, 0, none⟩), .pointer (some ⟨w.heap.size + 1, 0, none⟩)] (request.wr (q, o)) ((w.alloc (.cells D 29)).alloc (.cells D2 31)) enter42 (fun w2 hS2 hb2 => by
    rw [hz1] at *
    exact clo42 _ w.heap.size (w.heap.size + 1) q o w2 _ hS2 (by rw [hD]; exact (hb2.block _ (by omega)).trans n0) (by rw [hD2]; exact (hb2.block _ (by omega)).trans n1) (by omega) (by omega) hn hx1 hx2 hy1 hy2)
  clear hD hD2
  go_enter Try.func20, Try.ntmps20
  go_wp2_with fail
  refine hwr.mono ?_
  rintro e1 w1 h
  have h2 := enc_post h hb1
  clear hwr h
  generalize request.wr (q, o) = r at *
  cases r with
  | none =>
    obtain ⟨hbl, rfl⟩ := h2
    go_wp2
    go_ret2
    exact ⟨hbl, rfl⟩
  | some bs =>
    obtain ⟨hbl, vv, rfl, hv⟩ := h2
    obtain ⟨ao1, cap1, rfl, _, _, _, _⟩ := own_from hv
    go_wp2
    go_ret2
    exact ⟨hbl, _, rfl, hv⟩
end Go.Proofs.Ytfgnlfemckdfnaa
namespace Go.Proofs.Ytfgnlfemckdfnaa
open Go.RowKit Go.PlainAid
set_option maxRecDepth 100000 in
set_option maxHeartbeats 800000 in
theorem alike_any (ao bo : Option Addr) (n m ca cb : Nat) (xs ys : List UInt8) (w : World) (hx : xs.length = n) (hy : ys.length = m) (hfx : From w ao xs) (hfy : From w bo ys) :
    Calls Try.prog 15 #[.slice ao n ca, .slice bo m cb] w (fun e w' => e = .returned (.bool (decide (xs = ys))) ∧ w' = w) := by
  have c1 := conv_run w ao n ca xs hx hfx
  have c2 := conv_run w bo m cb ys hy hfy
  go_enter Try.func15, Try.ntmps15
  go_wp2
  go_ret
  refine ⟨ret_bool ?_, rfl⟩
  by_cases h : xs = ys <;> simp [h]
end Go.Proofs.Ytfgnlfemckdfnaa
namespace Go.Proofs.Ytfgnlfemckdfnaa
open Go.RowKit Go.PlainAid
def segB (x y : Seg) : Bool := x.src == y.src && x.dst == y.dst && x.seq == y.seq && x.ack == y.ack && decide (x.data = y.data)
theorem segB_iff (x y : Seg) : segB x y = true ↔ x = y := by
  cases x; cases y
  simp [segB, and_assoc]
set_option maxRecDepth 100000 in
set_option maxHeartbeats 1600000 in
theorem sameSeg_any (x y : Seg) (ao bo : Option Addr) (ca cb : Nat) (w : World) (hfx : From w ao x.data) (hfy : From w bo y.data) (hxb : ∀ b o, ao = some ⟨b, o, none⟩ → 0 < x.data.length → b < w.heap.size) (hyb : ∀ b o, bo = some ⟨b, o, none⟩ → 0 < y.data.length → b < w.heap.size) :
    Calls Try.prog 17 #[.agg (segCells x.src x.dst x.seq x.ack (.slice ao x.data.length ca)), .agg (segCells y.src y.dst y.seq y.ack (.slice bo y.data.length cb))] w (fun e w' => e = .returned (.bool (segB x y)) ∧ Below w.heap.size w w') := by
  have hal := fun (W : World) (h : Below w.heap.size w W) => alike_any ao bo x.data.length y.data.length ca cb x.data y.data W rfl rfl (hfx.keep0 fun b o e h0 => h.block b (hxb b o e h0)) (hfy.keep0 fun b o e h0 => h.block b (hyb b o e h0))
  unfold segCells at *
  unfold segB
  obtain ⟨x0, x1, x2, x3, x4⟩ := x
  obtain ⟨y0, y1, y2, y3, y4⟩ := y
  simp only at *
  go_enter Try.func17, Try.ntmps17
  go_wp2_with (go_at_call 15; refine (hal _ (by go_grown)).mono ?_; rintro e w3 ⟨rfl, rfl⟩)
  all_goals go_ret
  all_goals refine ⟨ret_bool ?_, by go_grown⟩
  all_goals simp_all
end Go.Proofs.Ytfgnlfemckdfnaa
namespace Go.Proofs.Ytfgnlfemckdfnaa
open Go.RowKit Go.PlainAid
set_option linter.unusedSimpArgs false
def viewB (x y : View) : Bool := x.name == y.name && x.cap == y.cap && x.recaps == y.recaps && x.version == y.version && x.down == y.down && x.up == y.up && x.held == y.held
theorem viewB_iff (x y : View) : viewB x y = true ↔ x = y := by
  cases x; cases y
  simp [viewB, and_assoc]
def viewsB : List View → List View → Bool
  | [], [] => true
  | x :: xs, y :: ys => viewB x y && viewsB xs ys
  | _, _ => false
theorem viewsB_iff : ∀ (xs ys : List View), viewsB xs ys = true ↔ xs = ys
  | [], [] => by simp [viewsB]
  | [], _ :: _ => by simp [viewsB]
  | _ :: _, [] => by simp [viewsB]
  | x :: xs, y :: ys => by simp [viewsB, viewB_iff, viewsB_iff xs ys]
structure Drewn (w w' : World) : Prop where
  heap : w'.heap = w.heap
  below : Below w.heap.size w w'
theorem Drewn.refl (w : World) : Drewn w w := ⟨rfl, Below.refl _ _⟩
theorem Drewn.drewN {w w' : World} (h : Drewn w w') (q : Nat) : Drewn w (w'.drewN q) := ⟨h.heap, h.below.os, h.below.tape, h.below.output, h.below.size, h.below.block⟩
theorem neq_view (xn yn : List UInt8) (xc xr xv xd xu xh yc yr yv yd yu yh : Int) (w : World) : Sem.run Try.prog (binOp .neq 112 (.agg #[.string ⟨xn.toArray⟩, .int .i64 xc, .int .i64 xr, .int .i64 xv, .int .i64 xd, .int .i64 xu, .int .i64 xh]) (.agg #[.string ⟨yn.toArray⟩, .int .i64 yc, .int .i64 yr, .int .i64 yv, .int .i64 yd, .int .i64 yu, .int .i64 yh])) w
    = .ok (.bool (!viewB ⟨xn, xc, xr, xv, xd, xu, xh⟩ ⟨yn, yc, yr, yv, yd, yu, yh⟩)) w := by
  simp [go_sem, viewB]
  by_cases h : xn = yn
  · subst h
    simp only [if_true, beq_self_eq_true, Bool.not_true, Bool.false_or]
    by_cases h : xc = yc
    · subst h
      simp only [if_true, beq_self_eq_true, Bool.not_true, Bool.false_or]
      by_cases h : xr = yr
      · subst h
        simp only [if_true, beq_self_eq_true, Bool.not_true, Bool.false_or]
        by_cases h : xv = yv
        · subst h
          simp only [if_true, beq_self_eq_true, Bool.not_true, Bool.false_or]
          by_cases h : xd = yd
          · subst h
            simp only [if_true, beq_self_eq_true, Bool.not_true, Bool.false_or]
            by_cases h : xu = yu
            · subst h
              simp only [if_true, beq_self_eq_true, Bool.not_true, Bool.false_or]
              by_cases h : xh = yh
              · subst h
                simp only [if_true, beq_self_eq_true, Bool.not_true, Bool.false_or]
              · simp [h]
            · simp [h]
          · simp [h]
        · simp [h]
      · simp [h]
    · simp [h]
  · simp [h]
theorem vcells {w : World} {ao : Option Addr} {xs : List View} (h : VFrom w ao xs) {q : Nat} {x : View} (hq : xs[q]? = some x) {wr : World} (hD : Drewn w wr) :
    ∃ vb vo, ao = some ⟨vb, vo, none⟩ ∧ wr.cell? ⟨vb, vo + q * 7, none⟩ = some (.string ⟨x.name.toArray⟩) ∧ wr.cell? ⟨vb, vo + q * 7 + 1, none⟩ = some (.int .i64 x.cap) ∧ wr.cell? ⟨vb, vo + q * 7 + 2, none⟩ = some (.int .i64 x.recaps) ∧ wr.cell? ⟨vb, vo + q * 7 + 3, none⟩ = some (.int .i64 x.version)
      ∧ wr.cell? ⟨vb, vo + q * 7 + 4, none⟩ = some (.int .i64 x.down) ∧ wr.cell? ⟨vb, vo + q * 7 + 5, none⟩ = some (.int .i64 x.up) ∧ wr.cell? ⟨vb, vo + q * 7 + 6, none⟩ = some (.int .i64 x.held) := by
  obtain ⟨vb, vo, e, hc⟩ := h q x hq
  have k : ∀ a : Addr, wr.cell? a = w.cell? a := fun a => World.cell?_of_block (w := w) (by rw [hD.heap])
  refine ⟨vb, vo, e, ?_, ?_, ?_, ?_, ?_, ?_, ?_⟩
  · rw [k]; exact hc 0 _ rfl
  · rw [k]; exact hc 1 _ rfl
  · rw [k]; exact hc 2 _ rfl
  · rw [k]; exact hc 3 _ rfl
  · rw [k]; exact hc 4 _ rfl
  · rw [k]; exact hc 5 _ rfl
  · rw [k]; exact hc 6 _ rfl
set_option maxRecDepth 100000 in
set_option maxHeartbeats 1600000 in
theorem sameViews_any (ao bo : Option Addr) (n m ca cb : Nat) (xs ys : List View) (w : World) (hxn : xs.length = n) (hym : ys.length = m) (hx : VFrom w ao xs) (hy : VFrom w bo ys) (hnb : n ≤ 140000000000000) :
    Calls Try.prog 33 #[.slice ao n ca, .slice bo m cb] w (fun e w' => e = .returned (.bool (viewsB xs ys)) ∧ Drewn w w') := by
  by_cases hl : n = m
  · subst hl
    have hne : (((n : Nat) : Int) != ((n : Nat) : Int)) = false := by simp
    go_enter Try.func33, Try.ntmps33
    go_wp2
    go_loopw [5] (fun i wr => ∃ q : Nat, q ≤ n ∧ i = .int .i64 q ∧ Drewn w wr ∧ ∀ j, j < q → xs[j]? = ys[j]?) (fun i _ => n - (intOf i).toNat)
    case atStart => exact ⟨0, by omega, rfl, Drewn.refl _, fun j hj => by omega⟩
    case round =>
      obtain ⟨q, hq, rfl, hD, hall⟩ := hrel
      by_cases hlt : q < n
      · obtain ⟨x, hxq⟩ : ∃ x, xs[q]? = some x := ⟨_, List.getElem?_eq_getElem (by omega)⟩
        obtain ⟨y, hyq⟩ : ∃ y, ys[q]? = some y := ⟨_, List.getElem?_eq_getElem (by omega)⟩
        obtain ⟨vb, vo, rfl, x0, x1, x2, x3, x4, x5, x6⟩ := vcells hx hxq hD
        obtain ⟨ub, uo, rfl, y0, y1, y2, y3, y4, y5, y6⟩ := vcells hy hyq hD
        have H : Hid _ := And.intro hxq (And.intro hyq (And.intro hall (And.intro hx hy)))
        clear hxq hyq hall hx hy
        obtain ⟨xn, xc, xr, xv, xd, xu, xh⟩ := x
        obtain ⟨yn, yc, yr, yv, yd, yu, yh⟩ := y
        simp only at *
        have hnq := neq_view xn yn xc xr xv xd xu xh yc yr yv yd yu yh
        cases hvb : viewB ⟨xn, xc, xr, xv, xd, xu, xh⟩ ⟨yn, yc, yr, yv, yd, yu, yh⟩
        · simp only [hvb, Bool.not_false] at hnq
          go_wp2_with fail
          go_quiet (fail)
          go_wp2
          go_ret
          obtain ⟨hxq, hyq, _⟩ := H.out
          refine ⟨ret_bool ?_, hD.drewN nq⟩
          symm
          rw [Bool.eq_false_iff]
          intro h
          have e := (viewsB_iff _ _).1 h
          rw [e, hyq] at hxq
          rw [(Option.some.inj hxq), (viewB_iff _ _).2 rfl] at hvb
          cases hvb
        · simp only [hvb, Bool.not_true] at hnq
          go_wp2_with fail
          go_quiet (fail)
          go_wp2
          obtain ⟨hxq, hyq, hall, _⟩ := H.out
          go_roundw
          case rel => 
            refine ⟨q + 1, by omega, by go_num, hD.drewN nq, fun j hj => ?_⟩
            by_cases e : j = q
            · subst e
              rw [hxq, hyq, (viewB_iff _ _).1 hvb]
            · exact hall j (by omega)
          case measure => simp [intOf]; omega
      · obtain rfl : q = n := by omega
        have heq : xs = ys := List.ext_getElem? fun j => by
          by_cases hj : j < q
          · exact hall j hj
          · rw [List.getElem?_eq_none (by omega), List.getElem?_eq_none (by omega)]
        go_wp2
        go_ret
        exact ⟨ret_bool (by rw [heq]; exact ((viewsB_iff _ _).2 rfl).symm), hD⟩
  · have hne : (((n : Nat) : Int) != ((m : Nat) : Int)) = true := by simp; omega
    go_enter Try.func33, Try.ntmps33
    go_wp2
    go_ret
    refine ⟨ret_bool ?_, Drewn.refl _⟩
    symm
    rw [Bool.eq_false_iff]
    intro h
    exact hl (by rw [← hxn, ← hym, (viewsB_iff _ _).1 h])
end Go.Proofs.Ytfgnlfemckdfnaa
