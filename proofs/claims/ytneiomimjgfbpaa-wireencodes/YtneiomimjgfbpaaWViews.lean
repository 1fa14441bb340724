import Derived.Test.YtneiomimjgfbpaaWSeg
namespace Go.Proofs.Ytneiomimjgfbpaa
open Go.RowKit Go.PlainAid
def viewCells (x : View) : List Value := [Str x.name, .int .i64 x.cap, .int .i64 x.recaps, .int .i64 x.version, .int .i64 x.down, .int .i64 x.up, .int .i64 x.held]
def VFrom (w : World) (ao : Option Addr) (l : List View) : Prop := ∀ i x, l[i]? = some x → ∃ vb vo, ao = some ⟨vb, vo, none⟩ ∧ ∀ j c, (viewCells x)[j]? = some c → w.cell? ⟨vb, vo + i * 7 + j, none⟩ = some c
theorem VFrom.keep {w w' : World} {ao : Option Addr} {l : List View} (h : VFrom w ao l) (hk : ∀ b off, ao = some ⟨b, off, none⟩ → w'.heap[b]? = w.heap[b]?) : VFrom w' ao l := by
  intro i x hx
  obtain ⟨vb, vo, rfl, hc⟩ := h i x hx
  exact ⟨vb, vo, rfl, fun j c hj => (World.cell?_of_block (w := w) (hk vb vo rfl)).trans (hc j c hj)⟩
theorem views_wr (l : List View) : views.wr l = join ((num 0 64).wr (l.length : Int)) ((viewList l.length []).wr l) := by
  simp only [views, Codec.map, Codec.bind, if_true, join, Int.toNat_natCast]
  rfl
theorem viewList_wr (n : Nat) (a : List UInt8) (x : View) (r : List View) : (viewList (n + 1) a).wr (x :: r) = join ((view a).wr x) ((viewList n x.name).wr r) := rfl
theorem viewList_nil (a : List UInt8) : (viewList 0 a).wr [] = some [] := rfl
theorem join_assoc (a b c : Option (List UInt8)) : join (join a b) c = join a (join b c) := by
  cases a <;> cases b <;> cases c <;> simp [join]
set_option maxRecDepth 100000 in
set_option maxHeartbeats 1600000 in
theorem views_w (hb b off : Nat) (v : Value) (out : List UInt8) (ao : Option Addr) (m c : Nat) (l : List View) (w : World) (hS : WSt hb v out w)
    (hd : w.cell? ⟨b, off, none⟩ = some (.slice ao m c)) (hm : l.length = m) (hsrc : VFrom w ao l) (hsb : ∀ b1 o1, ao = some ⟨b1, o1, none⟩ → b1 < hb) (hs : m ≤ 140000000000000) (hlen : ∀ x ∈ l, x.name.length ≤ 140737488355328) (hb' : b < hb) (hl : out.length ≤ 900000) :
    Calls Try.prog 79 #[WH hb, .pointer (some ⟨b, off, none⟩)] w (WPost hb out w (views.wr l)) := by
  unfold WH
  have hlt := hS.lt
  have hnew : (w.alloc (.cells #[.int .i64 (m : Int)] 3)).heap[w.heap.size]? = some (.cells #[.int .i64 (m : Int)] 3 (0, 0)) := heap_alloc_new w _
  have hcn : (w.alloc (.cells #[.int .i64 (m : Int)] 3)).cell? ⟨w.heap.size, 0, none⟩ = some (.int .i64 (m : Int)) := by rw [cell_of_row _ _ 0 _ 3 (0, 0) hnew]; rfl
  have hsa : WStep hb w (w.alloc (.cells #[.int .i64 (m : Int)] 3)) := WStep.alloc (by omega) _
  go_enter Try.func79, Try.ntmps79
  go_wp2_with fail
  refine (number_w hb w.heap.size 0 0 64 v out m 0 64 _ (hS.alloc _) hcn rfl rfl (by decide) (by omega)).mono ?_
  rintro e1 w1 ⟨hst1, h1⟩
  revert h1
  rw [← hm]
  intro h1
  generalize hr1 : (num 0 64).wr (l.length : Int) = r1 at h1
  cases r1 with
  | none =>
    have hn : views.wr l = none := by rw [views_wr, hr1] <;> rfl
    subst h1
    exact ⟨rfl, hsa.trans hst1, by rw [hn]; rfl⟩
  | some p1 =>
    obtain ⟨rfl, v1, hS1⟩ := h1
    have hp1 := num_len hr1
    have hm64 : m ≤ 64 := by
      simp only [num] at hr1
      split at hr1
      · rename_i hx
        simp only [Bool.and_eq_true, decide_eq_true_eq] at hx
        omega
      · cases hr1
    have hn : views.wr l = join (some p1) ((viewList l.length []).wr l) := by rw [views_wr, hr1] <;> rfl
    have HN : Hid _ := hn
    clear hn
    have c1 : w1.cell? ⟨w.heap.size, 0, none⟩ = some (.int .i64 (m : Int)) := hst1.cellO hnew (by decide) (by omega)
    have hd1 : w1.cell? ⟨b, off, none⟩ = some (.slice ao m c) := (hst1.cell hb').trans ((hsa.cell hb').trans hd)
    have hs1 := hsa.trans hst1
    have hsr1 : VFrom w1 ao l := hsrc.keep fun b1 o1 e => hs1.below.block b1 (hsb b1 o1 e)
    have hbn : ((m : Int) != (m : Int)) = false := by simp
    clear hnew hcn hsa hst1 hr1
    generalize w.heap.size = k at *
    go_wp2
    go_quiet (fail)
    go_wp2
    have hS1q := hS1.drewN nq
    have hs1q := hs1.drewN nq
    clear c1 hd1 hsr1 hbn hS1 hs1
    generalize w1.drewN nq = w1q at *
    go_loopw [5, 28] (fun av i wr => ∃ (k : Nat) (vr : Value) (pre a : List UInt8), i = .int .i64 k ∧ k ≤ m ∧ av = .string ⟨a.toArray⟩ ∧ pre.length ≤ 106 * k + 10 ∧ views.wr l = join (some pre) ((viewList (m - k) a).wr (l.drop k)) ∧ WSt hb vr (out ++ pre) wr ∧ WStep hb w wr) (fun _ i _ => m - (intOf i).toNat)
    case atStart => exact ⟨0, v1, p1, [], rfl, by omega, rfl, by omega, by simpa [hm] using HN.out, hS1q, hs1q⟩
    case round =>
      obtain ⟨k, vr, pre, a, rfl, hk, rfl, hpre, hinv, hSr, hstr⟩ := hrel
      clear hS1q hs1q
      have HI : Hid _ := hinv
      clear hinv HN
      by_cases hlt2 : k < m
      · have hkl : k < l.length := by omega
        obtain ⟨x, hx⟩ : ∃ x, l[k]? = some x := ⟨l[k]'hkl, List.getElem?_eq_getElem hkl⟩
        have hdrop : l.drop k = x :: l.drop (k + 1) := by
          rw [List.drop_eq_getElem_cons hkl]
          congr 1
          rw [List.getElem?_eq_getElem hkl] at hx
          exact Option.some.inj hx
        have hxl := hlen x (List.mem_of_getElem? hx)
        obtain ⟨vb, vo, rfl, hcs⟩ := hsrc k x hx
        have hvb := hsb vb vo rfl
        have hI2 : views.wr l = join (some pre) (join ((view a).wr x) ((viewList (m - (k + 1)) x.name).wr (l.drop (k + 1)))) := by
          rw [HI.out, hdrop, show m - k = (m - (k + 1)) + 1 from by omega, viewList_wr]
        have HI2 : Hid _ := hI2
        have hdr : wr.cell? ⟨b, off, none⟩ = some (.slice (some ⟨vb, vo, none⟩) m c) := (hstr.cell hb').trans hd
        have q0 : wr.cell? ⟨vb, vo + k * 7, none⟩ = some (Str x.name) := (hstr.cell hvb).trans (hcs 0 _ rfl)
        have q1 : wr.cell? ⟨vb, vo + k * 7 + 1, none⟩ = some (.int .i64 x.cap) := (hstr.cell hvb).trans (hcs 1 _ rfl)
        have q2 : wr.cell? ⟨vb, vo + k * 7 + 2, none⟩ = some (.int .i64 x.recaps) := (hstr.cell hvb).trans (hcs 2 _ rfl)
        have q3 : wr.cell? ⟨vb, vo + k * 7 + 3, none⟩ = some (.int .i64 x.version) := (hstr.cell hvb).trans (hcs 3 _ rfl)
        have q4 : wr.cell? ⟨vb, vo + k * 7 + 4, none⟩ = some (.int .i64 x.down) := (hstr.cell hvb).trans (hcs 4 _ rfl)
        have q5 : wr.cell? ⟨vb, vo + k * 7 + 4 + 1, none⟩ = some (.int .i64 x.up) := (hstr.cell hvb).trans (hcs 5 _ rfl)
        have q6 : wr.cell? ⟨vb, vo + k * 7 + 6, none⟩ = some (.int .i64 x.held) := (hstr.cell hvb).trans (hcs 6 _ rfl)
        have hvw := view_w hb vb (vo + k * 7) vr (out ++ pre) x.name a x.cap x.recaps x.version x.down x.up x.held wr hSr q0 q1 q2 q3 q4 q5 q6 hvb hxl (by simp only [List.length_append]; omega)
        have Q0 : Hid _ := q0
        unfold WH Str at hvw
        clear hI2 hdrop hcs q0 q1 q2 q3 q4 q5 q6 hx HI hsrc hd hS
        go_wp2_with fail
        refine hvw.mono ?_
        rintro e2 w2 ⟨hst2, h2⟩
        cases hr2 : (view a).wr x with
        | none =>
          have hn : views.wr l = none := by rw [HI2.out, hr2] <;> rfl
          rw [show (view a).wr ⟨x.name, x.cap, x.recaps, x.version, x.down, x.up, x.held⟩ = none from hr2] at h2
          subst h2
          exact ⟨rfl, hstr.trans hst2, by rw [hn]; rfl⟩
        | some p2 =>
          rw [show (view a).wr ⟨x.name, x.cap, x.recaps, x.version, x.down, x.up, x.held⟩ = some p2 from hr2] at h2
          obtain ⟨rfl, v2, hS2⟩ := h2
          have hp2 := view_len hr2
          have hn : views.wr l = join (some (pre ++ p2)) ((viewList (m - (k + 1)) x.name).wr (l.drop (k + 1))) := by
            rw [HI2.out, hr2, ← join_assoc]; rfl
          have HN2 : Hid _ := hn
          have q0' : w2.cell? ⟨vb, vo + k * 7, none⟩ = some (.string ⟨x.name.toArray⟩) := (hst2.cell hvb).trans Q0.out
          clear hn hr2 hvw Q0 HI2
          go_wp2
          go_roundw
          case rel => exact ⟨k + 1, v2, pre ++ p2, x.name, by go_num, by omega, rfl, by simp only [List.length_append]; omega, HN2.out, by rw [← List.append_assoc]; exact hS2, hstr.trans hst2⟩
          case measure => simp [intOf]; omega
      · have hn : views.wr l = some pre := by
          rw [HI.out, show m - k = 0 from by omega, List.drop_eq_nil_of_le (by omega), viewList_nil]
          simp [join]
        have HN2 : Hid _ := hn
        clear hn HI hsrc
        go_wp2
        go_end0
        exact ⟨hstr, by rw [HN2.out]; exact ⟨rfl, vr, hSr⟩⟩
end Go.Proofs.Ytneiomimjgfbpaa
