import Derived.Test.YtneiomimjgfbpaaWMsgA
import Derived.Test.YtneiomimjgfbpaaWMsgB
import Derived.Test.YtneiomimjgfbpaaWMsgC
import Derived.Test.YtneiomimjgfbpaaWMsgD
import Derived.Test.YtneiomimjgfbpaaWWrite
import Derived.Test.YtneiomimjgfbpaaBare2
import Derived.Test.YtneiomimjgfbpaaRDecS
namespace Go.Proofs.Ytneiomimjgfbpaa
open Go.RowKit Go.PlainAid

def hasM (m : Msg) : Int := if m.kind = 2 then (if hasCap m.err then 29 else 13) else hasOf m.kind
/-- What the fields of a message are written as. -/
def bodyW (m : Msg) : Option (List UInt8) :=
  if m.kind = 1 then join (call.wr (m.session, m.id)) (op.wr (m.okind, m.oname, m.oa, m.ob))
  else if m.kind = 2 then (if hasCap m.err then join (call.wr (m.session, m.id)) (join ((name []).wr m.name) (join (errno.wr m.err) (caps.wr (m.cap, m.recaps)))) else join (call.wr (m.session, m.id)) (join ((name []).wr m.name) (errno.wr m.err)))
  else if m.kind = 3 then join ((name []).wr m.name) (join (caps.wr (m.cap, m.recaps)) (epoch.wr (m.round, m.rank)))
  else if m.kind = 4 then join ((name []).wr m.name) (join (caps.wr (m.cap, m.recaps)) (join (epoch.wr (m.round, m.rank)) (join (rights.wr (m.down, m.up)) (held.wr m.held))))
  else if m.kind = 7 then join ((name []).wr m.name) (join (caps.wr (m.cap, m.recaps)) (join (epoch.wr (m.round, m.rank)) (epoch.wr (m.oround, m.orank))))
  else if m.kind = 8 ∨ m.kind = 9 then join ((name []).wr m.name) (join (caps.wr (m.cap, m.recaps)) (rights.wr (m.down, m.up)))
  else if m.kind = 10 then views.wr m.views
  else join ((name []).wr m.name) (join (caps.wr (m.cap, m.recaps)) (join (epoch.wr (m.round, m.rank)) (rights.wr (m.down, m.up))))
def fieldsW (m : Msg) : Option (List UInt8) := join ((num 1 10).wr m.kind) (bodyW m)

structure Fit (m : Msg) : Prop where
  name : m.name.length ≤ 140737488355328
  oname : m.oname.length ≤ 140737488355328
  a1 : (-9223372036854775808 : Int) ≤ m.oa
  a2 : m.oa < 9223372036854775808
  b1 : (-9223372036854775808 : Int) ≤ m.ob
  b2 : m.ob < 9223372036854775808
  views : m.views.length ≤ 140000000000000
  names : ∀ x ∈ m.views, x.name.length ≤ 140737488355328

set_option maxRecDepth 100000 in
set_option maxHeartbeats 1600000 in
theorem message_w (hb b : Nat) (v : Value) (out : List UInt8) (m : Msg) (ao : Option Addr) (cv : Nat) (w : World) (hS : WSt hb v out w) (hM : Blk w b (msgCells m (.slice ao m.views.length cv)) 35) (hb' : b < hb) (hf : Fit m)
    (hsrc : VFrom w ao m.views) (hsb : ∀ b1 o1, ao = some ⟨b1, o1, none⟩ → b1 < hb) (hl : out.length ≤ 800000) :
    Calls Try.prog 33 #[WH hb, .pointer (some ⟨b, 0, none⟩)] w (WPostR hb out w (fieldsW m) (.int .u64 (hasM m))) := by
  have c : ∀ j x, (msgCells m (.slice ao m.views.length cv))[j]? = some x → w.cell? ⟨b, j, none⟩ = some x := fun j x h => (hM.cell j).trans h
  by_cases hk : 1 ≤ m.kind ∧ m.kind ≤ 10
  · unfold hasM fieldsW bodyW
    have k0 : w.cell? ⟨b, 0, none⟩ = some (.int .i64 m.kind) := c 0 _ rfl
    rcases (show m.kind = 1 ∨ m.kind = 2 ∨ m.kind = 3 ∨ m.kind = 4 ∨ m.kind = 5 ∨ m.kind = 6 ∨ m.kind = 7 ∨ m.kind = 8 ∨ m.kind = 9 ∨ m.kind = 10 from by omega) with e | e | e | e | e | e | e | e | e | e <;> rw [e] at k0 ⊢
    · exact msg1_w hb b v out m.oname m.session m.id m.okind m.oa m.ob w hS k0 (c 11 _ rfl) (c 12 _ rfl) (c 13 _ rfl) (c 14 _ rfl) (c 15 _ rfl) (c 16 _ rfl) hb' hf.oname hf.a1 hf.a2 hf.b1 hf.b2 hl _ (by simp)
    · have her : w.cell? ⟨b, 17, none⟩ = some (.int .i64 m.err) := c 17 _ rfl
      by_cases h0 : m.err = 0
      · rw [h0] at her ⊢
        exact msg2z_w hb b v out m.name m.session m.id m.cap m.recaps w hS k0 (c 11 _ rfl) (c 12 _ rfl) (c 1 _ rfl) her (c 2 _ rfl) (c 3 _ rfl) hb' hf.name hl _ (by simp [hasCap])
      · by_cases h1 : m.err = 101
        · rw [h1] at her ⊢
          exact msg2x_w hb b v out m.name m.session m.id m.cap m.recaps w hS k0 (c 11 _ rfl) (c 12 _ rfl) (c 1 _ rfl) her (c 2 _ rfl) (c 3 _ rfl) hb' hf.name hl _ (by simp [hasCap])
        · have hc : hasCap m.err = false := by simp [hasCap, h0, h1]
          rw [hc]
          exact msg2n_w hb b v out m.name m.session m.id m.err w hS k0 (c 11 _ rfl) (c 12 _ rfl) (c 1 _ rfl) her hb' hf.name (by rw [beq_eq_false_iff_ne]; exact h0) (by rw [beq_eq_false_iff_ne]; exact h1) hl _ (by simp)
    · exact msg3_w hb b v out m.name m.cap m.recaps m.round m.rank w hS k0 (c 1 _ rfl) (c 2 _ rfl) (c 3 _ rfl) (c 4 _ rfl) (c 5 _ rfl) hb' hf.name hl _ (by simp)
    · exact msg4_w hb b v out m.name m.cap m.recaps m.round m.rank m.down m.up m.held w hS k0 (c 1 _ rfl) (c 2 _ rfl) (c 3 _ rfl) (c 4 _ rfl) (c 5 _ rfl) (c 8 _ rfl) (c 9 _ rfl) (c 10 _ rfl) hb' hf.name hl _ (by simp)
    · exact msg5_w hb b v out m.name m.cap m.recaps m.round m.rank m.down m.up w hS k0 (c 1 _ rfl) (c 2 _ rfl) (c 3 _ rfl) (c 4 _ rfl) (c 5 _ rfl) (c 8 _ rfl) (c 9 _ rfl) hb' hf.name hl _ (by simp)
    · exact msg6_w hb b v out m.name m.cap m.recaps m.round m.rank m.down m.up w hS k0 (c 1 _ rfl) (c 2 _ rfl) (c 3 _ rfl) (c 4 _ rfl) (c 5 _ rfl) (c 8 _ rfl) (c 9 _ rfl) hb' hf.name hl _ (by simp)
    · exact msg7_w hb b v out m.name m.cap m.recaps m.round m.rank m.oround m.orank w hS k0 (c 1 _ rfl) (c 2 _ rfl) (c 3 _ rfl) (c 4 _ rfl) (c 5 _ rfl) (c 6 _ rfl) (c 7 _ rfl) hb' hf.name hl _ (by simp)
    · exact msg8_w hb b v out m.name m.cap m.recaps m.down m.up w hS k0 (c 1 _ rfl) (c 2 _ rfl) (c 3 _ rfl) (c 8 _ rfl) (c 9 _ rfl) hb' hf.name hl _ (by simp)
    · exact msg9_w hb b v out m.name m.cap m.recaps m.down m.up w hS k0 (c 1 _ rfl) (c 2 _ rfl) (c 3 _ rfl) (c 8 _ rfl) (c 9 _ rfl) hb' hf.name hl _ (by simp)
    · exact msg10_w hb b v out ao m.views.length cv m.views w hS k0 (c 19 _ rfl) hb' rfl hsrc hsb hf.views hf.names hl _ (by simp)
  · have hn : (num 1 10).wr m.kind = none := by
      simp only [num]; rw [if_neg (by simp only [Bool.and_eq_true, decide_eq_true_eq]; omega)]
    have hfw : fieldsW m = none := by unfold fieldsW; rw [hn]; rfl
    have A1 := ahead_num_w ⟨hb, 0, none⟩
    have k0 : w.cell? ⟨b, 0, none⟩ = some (.int .i64 m.kind) := c 0 _ rfl
    rw [hfw]
    unfold WH
    clear c hM
    go_enter Try.func33, Try.ntmps33
    go_wp2_with fail
    try go_region_dies
    refine (number_w hb b 0 1 10 v out m.kind 1 10 _ (by first | exact hS | exact hS.drew) (by exact k0) rfl rfl (by decide) (by omega)).mono ?_
    rw [hn]
    rintro e1 w1 ⟨hsd, rfl⟩
    have hst : WStep hb w w1 := by first | exact hsd | exact hsd.ofDrew
    exact ⟨rfl, hst, rfl⟩

theorem enter35 (args : Array Value) (w : World) : (callFunc 36 args).run Try.prog w = .ok (.enter 36 args) w := by simp [go_sem]
/-- What Encode writes. -/
def encM (m : Msg) : Option (List UInt8) := match fieldsW m with
  | none => none
  | some bs => if bareB m m.views.length (hasM m) then some bs else none

set_option maxRecDepth 100000 in
set_option maxHeartbeats 1600000 in
theorem clo35 (hb b : Nat) (m : Msg) (ao : Option Addr) (cv : Nat) (w : World) (v : Value) (hS : WSt hb v [] w) (hM : Blk w b (msgCells m (.slice ao m.views.length cv)) 35) (hb' : b < hb) (hf : Fit m)
    (hsrc : VFrom w ao m.views) (hsb : ∀ b1 o1, ao = some ⟨b1, o1, none⟩ → b1 < hb) :
    Calls Try.prog 36 #[WH hb, .pointer (some ⟨b, 0, none⟩)] w (WPost hb [] w (encM m)) := by
  have hm := message_w hb b v [] m ao cv w hS hM hb' hf hsrc hsb (by simp)
  unfold WH at *
  go_enter Try.func36, Try.ntmps36
  go_wp2_with fail
  refine hm.mono ?_
  rintro e1 w1 ⟨hst, h⟩
  cases hr : fieldsW m with
  | none =>
    rw [hr] at h
    subst h
    have hn : encM m = none := by simp only [encM, hr]
    exact ⟨rfl, hst, by rw [hn]; rfl⟩
  | some bs =>
    rw [hr] at h
    obtain ⟨rfl, v1, hS1⟩ := h
    have hM1 : Blk w1 b (msgCells m (.slice ao m.views.length cv)) 35 := (hst.below.block b hb').trans hM
    have hn : encM m = if bareB m m.views.length (hasM m) then some bs else none := by simp only [encM, hr]
    have hba := bare_any m ao m.views.length cv (hasM m) w1
    have hlt := hS1.lt
    have HN : Hid _ := hn
    clear hn hr hm
    generalize hD : msgCells m (.slice ao m.views.length cv) = D at *
    have hsz : D.size = 20 := by rw [← hD]; rfl
    have hi35 : (Try.prog.info? 35).map (·.size) = some D.size := by rw [hsz]; kernel_rfl
    clear hD
    go_wp2_with (first | (refine wpList_load_row rfl 35 (.tmp 1) rfl b rfl 35 D (0, 0) _ hM1 Try.underlying35 rfl hi35 ?_) | fail)
    refine hba.mono ?_
    rintro e2 w2 ⟨rfl, hbl⟩
    have hS2 : WSt hb v1 ([] ++ bs) w2 := ⟨(hbl.block _ hlt).trans hS1.blk, own_stable hS1.own fun k _ hk => hbl.block k hk⟩
    have hst2 : WStep hb w w2 := hst.trans ⟨hbl.mono (by omega), fun k _ _ _ hk _ _ => hbl.block k (Array.getElem?_eq_some_iff.1 hk).1⟩
    clear hba hM1 hi35 hS1 hst hbl
    by_cases hg : bareB m m.views.length (hasM m) = true
    · rw [if_pos hg] at HN
      rw [hg]
      have hnot : ∀ (x : Bool) (w : World), (Op.unary .not (.bool x)).run Try.prog w = .ok (.bool (!x)) w := fun _ _ => rfl
      go_wp2
      go_end0
      exact ⟨hst2, by rw [HN.out]; exact ⟨rfl, v1, hS2⟩⟩
    · rw [if_neg hg] at HN
      rw [show bareB m m.views.length (hasM m) = false from by simpa using hg]
      have hnot : ∀ (x : Bool) (w : World), (Op.unary .not (.bool x)).run Try.prog w = .ok (.bool (!x)) w := fun _ _ => rfl
      go_wp2
      exact ⟨rfl, hst2, by rw [HN.out]; rfl⟩

/-- What an encoding answers. -/
def EncPost (r : Option (List UInt8)) (w : World) (e : Ending) (w' : World) : Prop := Below w.heap.size w w' ∧ match r with
    | none => e = .returned (.tuple #[.slice none 0 0, .int .i64 21])
    | some bs => ∃ v, e = .returned (.tuple #[v, .int .i64 0]) ∧ w'.ownsRow w.heap.size 5 1 v bs.length (bs.map B)

theorem enc_post {r : Option (List UInt8)} {w1 w : World} {e : Ending} {w' : World} (h : WDone r w1 e w') (hb : Below w.heap.size w w1) : EncPost r w e w' := by
  obtain ⟨h1, h2⟩ := h
  refine ⟨hb.trans (h1.mono hb.size), ?_⟩
  cases r with
  | none => exact h2
  | some bs =>
    obtain ⟨v, h3, h4⟩ := h2
    exact ⟨v, h3, own_mono h4 hb.size⟩

set_option maxRecDepth 100000 in
set_option maxHeartbeats 1600000 in
theorem encode_any (m : Msg) (ao : Option Addr) (cv : Nat) (w : World) (hf : Fit m) (hsrc : VFrom w ao m.views) (hsb : ∀ b1 o1, ao = some ⟨b1, o1, none⟩ → b1 < w.heap.size) :
    Calls Try.prog 14 #[.agg (msgCells m (.slice ao m.views.length cv))] w (EncPost (encM m) w) := by
  have hmf : ∀ (fn : Fn) (first cap : Array Value) (w : World), (Instr.makeFunc fn first cap).run Try.prog w = .ok (.func fn first cap) w := fun _ _ _ _ => rfl
  generalize hD : msgCells m (.slice ao m.views.length cv) = D
  have hsz : D.size = 20 := by rw [← hD]; rfl
  have hb1 : Below w.heap.size w (w.alloc (.cells D 35)) := by go_grown
  have n0 : Blk (w.alloc (.cells D 35)) w.heap.size D 35 := heap_alloc_new w _
  have hz1 : (w.alloc (.cells D 35)).heap.size = w.heap.size + 1 := by simp
  have hwr := write_any 36 #[.pointer (some ⟨w.heap.size, 0, none⟩)] (encM m) (w.alloc (.cells D 35)) enter35 (fun w2 hS2 hb2 => by
    rw [hz1] at *
    refine clo35 _ w.heap.size m ao cv w2 _ hS2 (by rw [hD]; exact (hb2.block _ (by omega)).trans n0) (by omega) hf (hsrc.keep fun b1 o1 e => (hb2.block b1 (by have := hsb b1 o1 e; omega)).trans (hb1.block b1 (hsb b1 o1 e))) (fun b1 o1 e => by have := hsb b1 o1 e; omega))
  clear hD hsrc
  go_enter Try.func14, Try.ntmps14
  go_wp2_with fail
  refine hwr.mono ?_
  rintro e1 w1 h
  have h2 := enc_post h hb1
  clear hwr h
  generalize encM m = r at *
  cases r with
  | none =>
    obtain ⟨hbl, rfl⟩ := h2
    go_wp2
    go_ret2
    exact ⟨hbl, rfl⟩
  | some bs =>
    obtain ⟨hbl, vv, rfl, hv⟩ := h2
    obtain ⟨ao1, cap1, rfl, _, _, _, _⟩ := own_from hv
    go_wp2
    go_ret2
    exact ⟨hbl, _, rfl, hv⟩
end Go.Proofs.Ytneiomimjgfbpaa
