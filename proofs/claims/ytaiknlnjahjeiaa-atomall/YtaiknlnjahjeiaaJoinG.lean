import Derived.Test.YtaiknlnjahjeiaaPl
import Derived.Test.YtaiknlnjahjeiaaJoinC
import Derived.Test.YtaiknlnjahjeiaaJoinA
import Derived.Deep.Cut
import Derived.BigQuiet
namespace Go.Proofs.Ytaiknlnjahjeiaa
open Go.RowKit Go.PlainAid Go.MapKept
set_option linter.unusedVariables false
set_option linter.unusedSimpArgs false
theorem results_tmp4g {fn : Func} {t u v x : Tmp} (h : fn.results = #[.tmp t, .tmp u, .tmp v, .tmp x]) (tmps : Array Value) (P : Program) (w : World) :
    (results fn tmps).run P w = .ok (.tuple #[tmps.getD t undef, tmps.getD u undef, tmps.getD v undef, tmps.getD x undef]) w := by
  simp [results, h]
/-- A counter of the document. -/
structure RC where
  nm : List UInt8
  cap : Int
  val : Int
  hv : Value
  H : List (Int × Int)
  uv : Value
  U : List Int
def RC.cs (c : RC) : Array Value := #[.string ⟨c.nm.toArray⟩, .int .i64 c.cap, .int .i64 c.val, c.hv, c.uv]
def RC.row (c : RC) : List Value := [.string ⟨c.nm.toArray⟩, .int .i64 c.cap, .int .i64 c.val, c.hv, c.uv]
def lkRow (p : Int × Int) : List Value := [.int .i64 p.1, .int .i64 p.2]
def flatH (H : List (Int × Int)) : List Value := H.flatMap lkRow
/-- Its lists can be read. -/
structure RC.Rd (B : Nat) (c : RC) (w : World) : Prop where
  h : w.ownsRow B 125 2 c.hv c.H.length (flatH c.H)
  u : w.ownsRow B 3 1 c.uv c.U.length (c.U.map I)
/-- What holds of it. -/
structure RC.Ok (K : Nat) (c : RC) : Prop where
  cap : 1 ≤ c.cap ∧ c.cap ≤ 1099511627776
  val : 0 ≤ c.val
  sum : c.val + sumH c.H ≤ c.cap
  pos : ∀ p ∈ c.H, 1 ≤ p.2
  kd : c.H.Pairwise (fun a b => a.1 ≠ b.1)
  hl : c.H.length ≤ K
  ul : c.U.length ≤ K
theorem RC.Rd.more {B : Nat} {c : RC} {w w' : World} (h : c.Rd B w) (hb : Below w.heap.size w w') : c.Rd B w' := ⟨ownsRow_same h.h (fun g hg => hb.block g (ownsRow_lt h.h hg).2), ownsRow_same h.u (fun g hg => hb.block g (ownsRow_lt h.u hg).2)⟩
theorem RC.Rd.mono {B B' : Nat} {c : RC} {w : World} (h : c.Rd B w) (hb : B' ≤ B) : c.Rd B' w := ⟨ownsRow_mono h.h hb, ownsRow_mono h.u hb⟩
/-- What an owned row holds, cell by cell. -/
theorem own_at' {w : World} {base e s n : Nat} {v : Value} {xs : List Value} (h : w.ownsRow base e s v n xs) (h0 : 0 < n) : ∃ g cap, v = .slice (some ⟨g, 0, none⟩) n cap ∧ n ≤ cap ∧ base ≤ g ∧ g < w.heap.size ∧ ∀ j x, xs[j]? = some x → w.cell? ⟨g, j, none⟩ = some x := by
  rcases h.2 with ⟨rfl, rfl⟩ | ⟨g, cap, cur, rfl, hb, hg, hc, hm, hcs, htake⟩
  · omega
  · refine ⟨g, cap, rfl, hc, (ownsRow_lt h rfl).1, (ownsRow_lt h rfl).2, fun j x hx => ?_⟩
    have := h.cells (g := g) rfl j x hx
    rwa [addr_add, Nat.zero_add] at this
theorem flatH_at {H : List (Int × Int)} {q : Nat} {p : Int × Int} (j : Nat) (h : H[q]? = some p) (hj : j < 2) : (flatH H)[q * 2 + j]? = (lkRow p)[j]? := flat_at lkRow 2 (fun _ => rfl) H q j p h hj
theorem sumH_take (H : List (Int × Int)) (q : Nat) (p : Int × Int) (h : H[q]? = some p) : sumH (H.take (q + 1)) = sumH (H.take q) + p.2 := by
  rw [List.take_add_one, h]
  simp [sumH]
theorem sumH_app (a b : List (Int × Int)) : sumH (a ++ b) = sumH a + sumH b := by simp [sumH]
theorem wrB {x : Int} (h1 : -9000000000000 ≤ x) (h2 : x ≤ 9000000000000) : IntKind.i64.wrap x = x := wr h1 h2
theorem sumH_le {H : List (Int × Int)} (hp : ∀ p ∈ H, 1 ≤ p.2) (q : Nat) : 0 ≤ sumH (H.take q) ∧ sumH (H.take q) ≤ sumH H := by
  have h1 : 0 ≤ sumH (H.take q) := sum_nn (fun p h => by have := hp p (List.mem_of_mem_take h); omega)
  have h2 : 0 ≤ sumH (H.drop q) := sum_nn (fun p h => by have := hp p (List.mem_of_mem_drop h); omega)
  have h3 : sumH H = sumH (H.take q) + sumH (H.drop q) := by
    rw [← sumH_app, List.take_append_drop]
  omega
def amtR (q : Int) : List (Int × Int) → Int
  | [] => 0
  | p :: t => if p.1 = q then p.2 else amtR q t
theorem amtR_none {q : Int} : ∀ {H : List (Int × Int)}, (∀ p ∈ H, p.1 ≠ q) → amtR q H = 0
  | [], _ => rfl
  | p :: t, h => by rw [amtR, if_neg (h p (List.mem_cons_self ..))]; exact amtR_none (fun x hx => h x (List.mem_cons_of_mem _ hx))
theorem amtR_at {q : Int} : ∀ {H : List (Int × Int)} {j : Nat} {p : Int × Int}, H[j]? = some p → (∀ i x, i < j → H[i]? = some x → x.1 ≠ q) → p.1 = q → amtR q H = p.2
  | [], j, p, h, _, _ => by simp at h
  | x :: t, 0, p, h, _, hq => by simp at h; subst h; rw [amtR, if_pos hq]
  | x :: t, j + 1, p, h, hn, hq => by
    rw [amtR, if_neg (hn 0 x (by omega) rfl)]
    exact amtR_at (H := t) (j := j) (by simpa using h) (fun i y hi hy => hn (i + 1) y (by omega) (by simpa using hy)) hq
theorem all_at {α : Type} {P : α → Prop} {l : List α} (h : ∀ i x, i < l.length → l[i]? = some x → P x) : ∀ x ∈ l, P x := fun x hx => by
  obtain ⟨i, hi⟩ := List.mem_iff_getElem?.1 hx
  exact h i x (List.getElem?_eq_some_iff.1 hi).1 hi
def BoxPost (w : World) (v : Value) (e : Ending) (w' : World) : Prop := e = .returned v ∧ Below w.heap.size w w'
set_option maxRecDepth 100000 in
set_option maxHeartbeats 1600000 in
theorem held_any {B K : Nat} {c : RC} (w : World) (h : c.Rd B w) (hok : c.Ok K) (hK : K ≤ 100000) :
    Calls Try.prog 74 #[.agg #[.string ⟨c.nm.toArray⟩, .int .i64 c.cap, .int .i64 c.val, c.hv, c.uv]] w (BoxPost w (.int .i64 (sumH c.H))) := by
  obtain ⟨cb, hcb⟩ : ∃ b, b = w.heap.size := ⟨_, rfl⟩
  obtain ⟨X, hX⟩ : ∃ X, X = w.alloc (.cells #[.string ⟨c.nm.toArray⟩, .int .i64 c.cap, .int .i64 c.val, c.hv, c.uv] 94) := ⟨_, rfl⟩
  have hbX : Below w.heap.size w X := by rw [hX]; exact (Below.refl _ _).alloc (Nat.le_refl _) _
  have hB : Blk X cb #[.string ⟨c.nm.toArray⟩, .int .i64 c.cap, .int .i64 c.val, c.hv, c.uv] 94 := by rw [hX, hcb]; exact heap_alloc_new w _
  have hR := h.more hbX
  have HBX : Hid (Below w.heap.size w X) := hbX
  obtain ⟨M, hM⟩ : ∃ M, M = c.H.length := ⟨_, rfl⟩
  have HM : Hid (M = c.H.length) := hM
  have hrow := hR.h
  rw [← hM] at hrow
  obtain ⟨ho, hc, hhv, _⟩ := own_slice hrow
  have x3 : X.cell? ⟨cb, 3, none⟩ = some (.slice ho M hc) := by have := hB.cell 3; rw [← hhv]; exact this
  rw [hhv] at hrow
  have HR : Hid (X.ownsRow B 125 2 (.slice ho M hc) M (flatH c.H)) := hrow
  have hlen : M ≤ 100000 := by rw [hM]; exact Nat.le_trans hok.hl hK
  have HP : Hid (∀ p ∈ c.H, 1 ≤ p.2) := hok.pos
  have hsm : sumH c.H ≤ 1099511627776 := by have := hok.sum; have := hok.val; have := hok.cap.2; omega
  clear h hR hok hbX hrow hB hM hhv
  go_enter Try.func74, Try.ntmps74
  go_upto_region 3 with fail
  rw [← hX, ← hcb]
  clear hX hcb
  go_wp2_with fail
  go_loopw [3, 4] (fun s3 s4 wr => ∃ q : Nat, q ≤ M ∧ s3 = .int .i64 (sumH (c.H.take q)) ∧ s4 = .int .i64 q ∧ wr = X) (fun _ s4 _ => M - (intOf s4).toNat)
  case atStart => exact ⟨0, Nat.zero_le _, rfl, rfl, rfl⟩
  case round =>
    obtain ⟨q, hqM, rfl, rfl, rfl⟩ := hrel
    by_cases hlt : q < M
    · obtain ⟨p, hp⟩ : ∃ p, c.H[q]? = some p := ⟨_, List.getElem?_eq_getElem (by rw [← HM.out]; exact hlt)⟩
      obtain ⟨g, gc, hg, _, _, hgl, hcell⟩ := own_at' HR.out (by omega)
      cases hg
      have c1 : wr.cell? ⟨g, q * 2 + 1, none⟩ = some (.int .i64 p.2) := hcell (q * 2 + 1) _ (flatH_at 1 hp (by decide))
      have HT : Hid (sumH (c.H.take (q + 1)) = sumH (c.H.take q) + p.2) := sumH_take c.H q p hp
      have hs1 := sumH_le HP.out q
      have hs2 := sumH_le HP.out (q + 1)
      have hwr : IntKind.i64.wrap (sumH (c.H.take q) + p.2) = sumH (c.H.take q) + p.2 := by rw [← HT.out]; exact wrB (by omega) (by omega)
      clear hcell hgl hp hs1 hs2
      generalize sumH (c.H.take q) = s0 at *
      go_wp2_with fail
      go_roundw
      case rel => exact ⟨q + 1, by omega, by first | rfl | (rw [HT.out]), by go_num, by first | rfl | trivial⟩
      case measure => simp [intOf]; omega
    · have HQ : Hid (sumH (c.H.take q) = sumH c.H) := show _ = _ from by rw [List.take_of_length_le (by rw [← HM.out]; omega)]
      generalize sumH (c.H.take q) = s0 at *
      go_wp2_with fail
      go_ret
      exact ⟨by rw [← HQ.out]; rfl, HBX.out⟩
set_option maxRecDepth 100000 in
set_option maxHeartbeats 1600000 in
theorem amount_any {B K : Nat} {c : RC} (n : Int) (w : World) (h : c.Rd B w) (hok : c.Ok K) (hK : K ≤ 100000) :
    Calls Try.prog 77 #[.agg #[.string ⟨c.nm.toArray⟩, .int .i64 c.cap, .int .i64 c.val, c.hv, c.uv], .int .i64 n] w (BoxPost w (.int .i64 (amtR n c.H))) := by
  obtain ⟨cb, hcb⟩ : ∃ b, b = w.heap.size := ⟨_, rfl⟩
  obtain ⟨X, hX⟩ : ∃ X, X = w.alloc (.cells #[.string ⟨c.nm.toArray⟩, .int .i64 c.cap, .int .i64 c.val, c.hv, c.uv] 94) := ⟨_, rfl⟩
  have hbX : Below w.heap.size w X := by rw [hX]; exact (Below.refl _ _).alloc (Nat.le_refl _) _
  have hB : Blk X cb #[.string ⟨c.nm.toArray⟩, .int .i64 c.cap, .int .i64 c.val, c.hv, c.uv] 94 := by rw [hX, hcb]; exact heap_alloc_new w _
  have hR := h.more hbX
  have HBX : Hid (Below w.heap.size w X) := hbX
  obtain ⟨M, hM⟩ : ∃ M, M = c.H.length := ⟨_, rfl⟩
  have HM : Hid (M = c.H.length) := hM
  have hrow := hR.h
  rw [← hM] at hrow
  obtain ⟨ho, hc, hhv, _⟩ := own_slice hrow
  have x3 : X.cell? ⟨cb, 3, none⟩ = some (.slice ho M hc) := by have := hB.cell 3; rw [← hhv]; exact this
  rw [hhv] at hrow
  have HR : Hid (X.ownsRow B 125 2 (.slice ho M hc) M (flatH c.H)) := hrow
  have hlen : M ≤ 100000 := by rw [hM]; exact Nat.le_trans hok.hl hK
  clear h hR hok hbX hrow hB hM hhv
  go_enter Try.func77, Try.ntmps77
  go_upto_region 2 with fail
  rw [← hX, ← hcb]
  clear hX hcb
  go_wp2_with fail
  go_loopw [5] (fun s5 wr => ∃ q : Nat, q ≤ M ∧ s5 = .int .i64 q ∧ wr = X ∧ ∀ i x, i < q → c.H[i]? = some x → x.1 ≠ n) (fun s5 _ => M - (intOf s5).toNat)
  case atStart => exact ⟨0, Nat.zero_le _, rfl, rfl, fun i x hi => absurd hi (Nat.not_lt_zero _)⟩
  case round =>
    obtain ⟨q, hqM, rfl, rfl, hnq⟩ := hrel
    have HNQ : Hid (∀ i x, i < q → c.H[i]? = some x → x.1 ≠ n) := hnq
    clear hnq
    by_cases hlt : q < M
    · obtain ⟨p, hp⟩ : ∃ p, c.H[q]? = some p := ⟨_, List.getElem?_eq_getElem (by rw [← HM.out]; exact hlt)⟩
      obtain ⟨g, gc, hg, _, _, hgl, hcell⟩ := own_at' HR.out (by omega)
      cases hg
      have c0 : wr.cell? ⟨g, q * 2, none⟩ = some (.int .i64 p.1) := hcell (q * 2) _ (flatH_at 0 hp (by decide))
      have c1 : wr.cell? ⟨g, q * 2 + 1, none⟩ = some (.int .i64 p.2) := hcell (q * 2 + 1) _ (flatH_at 1 hp (by decide))
      by_cases hn : p.1 = n
      · have HA : Hid (amtR n c.H = p.2) := amtR_at hp HNQ.out hn
        obtain ⟨p1, p2⟩ := p
        simp only at hn HA c0 c1
        subst hn
        clear hcell hgl hp
        go_wp2_with fail
        go_ret
        exact ⟨by rw [HA.out]; rfl, HBX.out⟩
      · have HN2 : Hid (∀ i x, i < q + 1 → c.H[i]? = some x → x.1 ≠ n) := fun i x hi hx => by
          rcases Nat.lt_succ_iff_lt_or_eq.1 hi with h | h
          · exact HNQ.out i x h hx
          · subst h; rw [hp] at hx; cases hx; exact hn
        have hq1 : (p.1 == n) = false := by simpa using hn
        clear hcell hgl hp
        go_wp2_with fail
        go_roundw
        case rel => exact ⟨q + 1, by omega, by go_num, by first | rfl | trivial, HN2.out⟩
        case measure => simp [intOf]; omega
    · have HA : Hid (amtR n c.H = 0) := amtR_none (all_at (fun i x hi hx => HNQ.out i x (by rw [← HM.out] at hi; omega) hx))
      go_wp2_with fail
      go_ret
      exact ⟨by rw [HA.out]; rfl, HBX.out⟩
set_option maxRecDepth 100000 in
set_option maxHeartbeats 1600000 in
theorem used_any {B K : Nat} {c : RC} (n : Int) (w : World) (h : c.Rd B w) (hok : c.Ok K) (hK : K ≤ 100000) :
    Calls Try.prog 75 #[.agg #[.string ⟨c.nm.toArray⟩, .int .i64 c.cap, .int .i64 c.val, c.hv, c.uv], .int .i64 n] w (BoxPost w (.bool (decide (n ∈ c.U)))) := by
  obtain ⟨cb, hcb⟩ : ∃ b, b = w.heap.size := ⟨_, rfl⟩
  obtain ⟨X, hX⟩ : ∃ X, X = w.alloc (.cells #[.string ⟨c.nm.toArray⟩, .int .i64 c.cap, .int .i64 c.val, c.hv, c.uv] 94) := ⟨_, rfl⟩
  have hbX : Below w.heap.size w X := by rw [hX]; exact (Below.refl _ _).alloc (Nat.le_refl _) _
  have hB : Blk X cb #[.string ⟨c.nm.toArray⟩, .int .i64 c.cap, .int .i64 c.val, c.hv, c.uv] 94 := by rw [hX, hcb]; exact heap_alloc_new w _
  have hR := h.more hbX
  have HBX : Hid (Below w.heap.size w X) := hbX
  obtain ⟨M, hM⟩ : ∃ M, M = c.U.length := ⟨_, rfl⟩
  have HM : Hid (M = c.U.length) := hM
  have hrow := hR.u
  rw [← hM] at hrow
  obtain ⟨ho, hc, hhv, _⟩ := own_slice hrow
  have x3 : X.cell? ⟨cb, 4, none⟩ = some (.slice ho M hc) := by have := hB.cell 4; rw [← hhv]; exact this
  rw [hhv] at hrow
  have HR : Hid (X.ownsRow B 3 1 (.slice ho M hc) M (c.U.map I)) := hrow
  have hlen : M ≤ 100000 := by rw [hM]; exact Nat.le_trans hok.ul hK
  clear h hR hok hbX hrow hB hM hhv
  go_enter Try.func75, Try.ntmps75
  go_upto_region 2 with fail
  rw [← hX, ← hcb]
  clear hX hcb
  go_wp2_with fail
  go_loopw [5] (fun s5 wr => ∃ q : Nat, q ≤ M ∧ s5 = .int .i64 q ∧ wr = X ∧ ∀ i x, i < q → c.U[i]? = some x → x ≠ n) (fun s5 _ => M - (intOf s5).toNat)
  case atStart => exact ⟨0, Nat.zero_le _, rfl, rfl, fun i x hi => absurd hi (Nat.not_lt_zero _)⟩
  case round =>
    obtain ⟨q, hqM, rfl, rfl, hnq⟩ := hrel
    have HNQ : Hid (∀ i x, i < q → c.U[i]? = some x → x ≠ n) := hnq
    clear hnq
    by_cases hlt : q < M
    · obtain ⟨p, hp⟩ : ∃ p, c.U[q]? = some p := ⟨_, List.getElem?_eq_getElem (by rw [← HM.out]; exact hlt)⟩
      obtain ⟨g, gc, hg, _, _, hgl, hcell⟩ := own_at' HR.out (by omega)
      cases hg
      have c0 : wr.cell? ⟨g, q, none⟩ = some (.int .i64 p) := hcell q _ (by rw [List.getElem?_map, hp]; rfl)
      by_cases hn : p = n
      · subst hn
        have HA : Hid (decide (p ∈ c.U) = true) := show _ = _ from by simpa using List.mem_of_getElem? hp
        clear hcell hgl hp
        go_wp2_with fail
        go_ret
        exact ⟨by rw [HA.out]; rfl, HBX.out⟩
      · have HN2 : Hid (∀ i x, i < q + 1 → c.U[i]? = some x → x ≠ n) := fun i x hi hx => by
          rcases Nat.lt_succ_iff_lt_or_eq.1 hi with h | h
          · exact HNQ.out i x h hx
          · subst h; rw [hp] at hx; cases hx; exact hn
        have hq1 : (p == n) = false := by simpa using hn
        clear hcell hgl hp
        go_wp2_with fail
        go_roundw
        case rel => exact ⟨q + 1, by omega, by go_num, by first | rfl | trivial, HN2.out⟩
        case measure => simp [intOf]; omega
    · have HA : Hid (decide (n ∈ c.U) = false) := show _ = _ from by
        have := all_at (P := fun x => x ≠ n) (l := c.U) (fun i x hi hx => HNQ.out i x (by rw [← HM.out] at hi; omega) hx)
        simp only [decide_eq_false_iff_not]
        exact fun h => this n h rfl
      go_wp2_with fail
      go_ret
      exact ⟨by rw [HA.out]; rfl, HBX.out⟩
end Go.Proofs.Ytaiknlnjahjeiaa
namespace Go.Proofs.Ytaiknlnjahjeiaa
open Go.RowKit Go.PlainAid Go.MapKept
set_option linter.unusedVariables false
set_option linter.unusedSimpArgs false
theorem info125 : (Try.prog.info? 125).map (fun i => (i.zero, i.size, i.bytes)) = some (some (.agg #[.int .i64 0, .int .i64 0]), 2, 16) := by kernel_rfl
theorem info94 : (Try.prog.info? 94).map (fun i => (i.zero, i.size, i.bytes)) = some (some (.agg #[.string ⟨#[]⟩, .int .i64 0, .int .i64 0, .slice none 0 0, .slice none 0 0]), 5, 80) := by kernel_rfl
/-- The holds but one. -/
def wo (n : Int) (H : List (Int × Int)) : List (Int × Int) := H.filter fun p => p.1 != n
theorem wo_len (n : Int) (H : List (Int × Int)) : (wo n H).length ≤ H.length := List.length_filter_le _ _
theorem wo_take {n : Int} {H : List (Int × Int)} {q : Nat} {p : Int × Int} (h : H[q]? = some p) : wo n (H.take (q + 1)) = wo n (H.take q) ++ (if p.1 = n then [] else [p]) := by
  rw [List.take_add_one, h]
  unfold wo
  rw [List.filter_append]
  congr 1
  by_cases e : p.1 = n <;> simp [e]
theorem flatH_app (a : List (Int × Int)) (p : Int × Int) : flatH (a ++ [p]) = flatH a ++ [.int .i64 p.1, .int .i64 p.2] := by simp [flatH, lkRow]
set_option maxRecDepth 100000 in
set_option maxHeartbeats 1600000 in
theorem without_any {B K : Nat} {c : RC} (n : Int) (w : World) (h : c.Rd B w) (hok : c.Ok K) (hK : K ≤ 100000) :
    Calls Try.prog 78 #[.agg #[.string ⟨c.nm.toArray⟩, .int .i64 c.cap, .int .i64 c.val, c.hv, c.uv], .int .i64 n] w fun e w' => ∃ v, e = .returned v ∧ w'.ownsRow w.heap.size 125 2 v (wo n c.H).length (flatH (wo n c.H)) ∧ Below w.heap.size w w' := by
  obtain ⟨cb, hcb⟩ : ∃ b, b = w.heap.size := ⟨_, rfl⟩
  obtain ⟨X, hX⟩ : ∃ X, X = w.alloc (.cells #[.string ⟨c.nm.toArray⟩, .int .i64 c.cap, .int .i64 c.val, c.hv, c.uv] 94) := ⟨_, rfl⟩
  have hbX : Below w.heap.size w X := by rw [hX]; exact (Below.refl _ _).alloc (Nat.le_refl _) _
  have hB : Blk X cb #[.string ⟨c.nm.toArray⟩, .int .i64 c.cap, .int .i64 c.val, c.hv, c.uv] 94 := by rw [hX, hcb]; exact heap_alloc_new w _
  have hR := h.more hbX
  have HBX : Hid (Below w.heap.size w X) := hbX
  obtain ⟨M, hM⟩ : ∃ M, M = c.H.length := ⟨_, rfl⟩
  have HM : Hid (M = c.H.length) := hM
  have hrow := hR.h
  rw [← hM] at hrow
  obtain ⟨ho, hc, hhv, _⟩ := own_slice hrow
  have x3 : X.cell? ⟨cb, 3, none⟩ = some (.slice ho M hc) := by have := hB.cell 3; rw [← hhv]; exact this
  rw [hhv] at hrow
  have HR : Hid (X.ownsRow B 125 2 (.slice ho M hc) M (flatH c.H)) := hrow
  have hlen : M ≤ 100000 := by rw [hM]; exact Nat.le_trans hok.hl hK
  have HB : Hid (Blk X cb #[.string ⟨c.nm.toArray⟩, .int .i64 c.cap, .int .i64 c.val, c.hv, c.uv] 94) := hB
  clear h hR hok hbX hrow hB hM hhv
  go_enter Try.func78, Try.ntmps78
  go_upto_region 3 with fail
  rw [← hX, ← hcb]
  have HCB : Hid (w.heap.size ≤ cb) := show w.heap.size ≤ cb from by omega
  clear hX hcb
  go_wp2_with fail
  go_loopw [5, 6] (fun s5 s6 wr => ∃ (q m : Nat) (v : Value), v = s5 ∧ q ≤ M ∧ m ≤ q ∧ m = (wo n (c.H.take q)).length ∧ s6 = .int .i64 q ∧ wr.ownsRow X.heap.size 125 2 v m (flatH (wo n (c.H.take q))) ∧ Below X.heap.size X wr) (fun _ s6 _ => M - (intOf s6).toNat)
  case atStart => exact ⟨0, 0, _, rfl, Nat.zero_le _, Nat.le_refl _, rfl, rfl, World.ownsRow_nil _ _ _ _, Below.refl _ _⟩
  case round =>
    obtain ⟨q, m, v, rfl, hqM, hmq, hm, rfl, hv, hbw⟩ := hrel
    have HMM : Hid (m = (wo n (c.H.take q)).length) := hm
    have HV : Hid (wr.ownsRow X.heap.size 125 2 v m (flatH (wo n (c.H.take q)))) := hv
    have HBW : Hid (Below X.heap.size X wr) := hbw
    have y3 : wr.cell? ⟨cb, 3, none⟩ = some (.slice ho M hc) := (hbw.cell (p := ⟨cb, 3, none⟩) HB.out.lt).trans x3
    obtain ⟨vo, vc, hvv, _⟩ := own_slice hv
    subst hvv
    clear hv hbw hm
    by_cases hlt : q < M
    · obtain ⟨p, hp⟩ : ∃ p, c.H[q]? = some p := ⟨_, List.getElem?_eq_getElem (by rw [← HM.out]; exact hlt)⟩
      obtain ⟨g, gc, hg, _, _, hgl, hcell⟩ := own_at' HR.out (by omega)
      cases hg
      have c0 : wr.cell? ⟨g, q * 2, none⟩ = some (.int .i64 p.1) := (HBW.out.cell (p := ⟨g, q * 2, none⟩) hgl).trans (hcell (q * 2) _ (flatH_at 0 hp (by decide)))
      have c1 : wr.cell? ⟨g, q * 2 + 1, none⟩ = some (.int .i64 p.2) := (HBW.out.cell (p := ⟨g, q * 2 + 1, none⟩) hgl).trans (hcell (q * 2 + 1) _ (flatH_at 1 hp (by decide)))
      have hwt := wo_take (n := n) hp
      by_cases hn : p.1 = n
      · rw [if_pos hn, List.append_nil] at hwt
        have HT : Hid (wr.ownsRow X.heap.size 125 2 (.slice vo m vc) m (flatH (wo n (c.H.take (q + 1))))) := show World.ownsRow wr X.heap.size 125 2 (.slice vo m vc) m (flatH (wo n (c.H.take (q + 1)))) from by rw [hwt]; exact HV.out
        have HM2 : Hid (m = (wo n (c.H.take (q + 1))).length) := show _ = _ from by rw [hwt]; exact HMM.out
        obtain ⟨p1, p2⟩ := p
        simp only at hn c0 c1
        subst hn
        have hq1 : (p1 == p1) = true := by simp
        clear hcell hgl hp hwt
        go_wp2_with fail
        go_roundw
        case rel => exact ⟨q + 1, m, _, rfl, by omega, by omega, HM2.out, by go_num, HT.out, HBW.out⟩
        case measure => simp [intOf]; omega
      · rw [if_neg hn] at hwt
        have hq1 : (p.1 == n) = false := by simpa using hn
        obtain ⟨v', w', h1, h2, h3⟩ := app_one 91 125 (.agg #[.int .i64 0, .int .i64 0]) 2 16 Try.underlying91 info125 rfl (by decide) (by decide) HV.out #[.int .i64 p.1, .int .i64 p.2] rfl (fun u hu => by simp at hu; rcases hu with rfl | rfl <;> rfl) (by omega) HBW.out.size
        have HT : Hid (w'.ownsRow X.heap.size 125 2 v' (m + 1) (flatH (wo n (c.H.take (q + 1))))) := show World.ownsRow w' X.heap.size 125 2 v' (m + 1) (flatH (wo n (c.H.take (q + 1)))) from by rw [hwt, flatH_app]; exact h2
        have HM2 : Hid (m + 1 = (wo n (c.H.take (q + 1))).length) := show _ = _ from by rw [hwt, List.length_append, ← HMM.out]; rfl
        have HB2 : Hid (Below X.heap.size X w') := HBW.out.trans (h3.below (fun j hj => (ownsRow_lt HV.out hj).1) HBW.out.size)
        have HRN : Hid _ := h1
        clear hcell hgl hp hwt h1 h2 h3
        go_wp2_with (at_builtin; refine wpList_runs rfl _ _ 91 rfl rfl rfl HRN.out ?_)
        go_roundw
        case rel => exact ⟨q + 1, m + 1, _, rfl, by omega, by omega, HM2.out, by go_num, HT.out, HB2.out⟩
        case measure => simp [intOf]; omega
    · have hq : c.H.take q = c.H := List.take_of_length_le (by rw [← HM.out]; omega)
      have HF : Hid (wr.ownsRow X.heap.size 125 2 (.slice vo m vc) (wo n c.H).length (flatH (wo n c.H))) := show World.ownsRow wr X.heap.size 125 2 (.slice vo m vc) (wo n c.H).length (flatH (wo n c.H)) from by have h1 := HV.out; have h2 := HMM.out; rw [hq] at h1 h2; rw [← h2]; exact h1
      clear hq
      go_wp2_with fail
      go_ret
      exact ⟨_, rfl, ownsRow_mono HF.out HBX.out.size, HBX.out.trans (HBW.out.mono HBX.out.size)⟩
set_option maxRecDepth 100000 in
set_option maxHeartbeats 1600000 in
theorem with_any {B K : Nat} {c : RC} (n a : Int) (w : World) (h : c.Rd B w) (hok : c.Ok K) (hK : K ≤ 100000) :
    Calls Try.prog 76 #[.agg #[.string ⟨c.nm.toArray⟩, .int .i64 c.cap, .int .i64 c.val, c.hv, c.uv], .agg #[.int .i64 n, .int .i64 a]] w fun e w' => ∃ v, e = .returned v ∧ w'.ownsRow w.heap.size 125 2 v (wo n c.H ++ [(n, a)]).length (flatH (wo n c.H ++ [(n, a)])) ∧ Below w.heap.size w w' := by
  obtain ⟨cb, hcb⟩ : ∃ b, b = w.heap.size := ⟨_, rfl⟩
  obtain ⟨pb, hpb⟩ : ∃ b, b = w.heap.size + 1 := ⟨_, rfl⟩
  obtain ⟨X, hX⟩ : ∃ X, X = (w.alloc (.cells #[.string ⟨c.nm.toArray⟩, .int .i64 c.cap, .int .i64 c.val, c.hv, c.uv] 94)).alloc (.cells #[.int .i64 n, .int .i64 a] 125) := ⟨_, rfl⟩
  have hbX : Below w.heap.size w X := by rw [hX]; exact ((Below.refl _ _).alloc (Nat.le_refl _) _).alloc (by simp) _
  have HB : Hid (Blk X cb #[.string ⟨c.nm.toArray⟩, .int .i64 c.cap, .int .i64 c.val, c.hv, c.uv] 94) := show Blk X cb #[.string ⟨c.nm.toArray⟩, .int .i64 c.cap, .int .i64 c.val, c.hv, c.uv] 94 from by rw [hX, hcb]; exact blk_alloc (heap_alloc_new w _) _
  have HP : Hid (Blk X pb #[.int .i64 n, .int .i64 a] 125) := show Blk X pb #[.int .i64 n, .int .i64 a] 125 from by rw [hX, hpb]; have h := heap_alloc_new (w.alloc (.cells #[.string ⟨c.nm.toArray⟩, .int .i64 c.cap, .int .i64 c.val, c.hv, c.uv] 94)) (.cells #[.int .i64 n, .int .i64 a] 125); simp only [World.size_alloc] at h; exact h
  have HW : Hid _ := without_any n X (h.more hbX) hok hK
  have HBX : Hid (Below w.heap.size w X) := hbX
  obtain ⟨M, hM⟩ : ∃ M, M = (wo n c.H).length := ⟨_, rfl⟩
  have hMl : M ≤ 100000 := by rw [hM]; exact Nat.le_trans (wo_len n c.H) (Nat.le_trans hok.hl hK)
  rw [← hM] at HW
  have HM : Hid (M = (wo n c.H).length) := hM
  have x0 : X.cell? ⟨cb, 0, none⟩ = some (.string ⟨c.nm.toArray⟩) := HB.out.cell 0
  have x1 : X.cell? ⟨cb, 1, none⟩ = some (.int .i64 c.cap) := HB.out.cell 1
  have x2 : X.cell? ⟨cb, 2, none⟩ = some (.int .i64 c.val) := HB.out.cell 2
  have x3 : X.cell? ⟨cb, 3, none⟩ = some c.hv := HB.out.cell 3
  have x4 : X.cell? ⟨cb, 4, none⟩ = some c.uv := HB.out.cell 4
  have p0 : X.cell? ⟨pb, 0, none⟩ = some (.int .i64 n) := HP.out.cell 0
  obtain ⟨ho, hc, hhv, _⟩ := own_slice h.h
  obtain ⟨uo, uc, huv, _⟩ := own_slice h.u
  rw [hhv] at x3
  rw [huv] at x4
  rw [hhv, huv] at HW
  clear hbX h hok hM hhv huv
  go_enter Try.func76, Try.ntmps76
  go_upto_region 1 with fail
  rw [← hX, ← hpb, ← hcb]
  clear hX hpb hcb
  go_wp2_with fail
  refine Calls.mono HW.out ?_
  rintro e9 w2 ⟨v, rfl, hv, hb2⟩
  have hP2 := HP.out.below hb2 HP.out.lt
  have q0 : w2.cell? ⟨pb, 0, none⟩ = some (.int .i64 n) := hP2.cell 0
  have q1 : w2.cell? ⟨pb, 1, none⟩ = some (.int .i64 a) := hP2.cell 1
  obtain ⟨vo, vc, hvv, _⟩ := own_slice hv
  subst hvv
  obtain ⟨v', w', h1, h2, h3⟩ := app_one 91 125 (.agg #[.int .i64 0, .int .i64 0]) 2 16 Try.underlying91 info125 rfl (by decide) (by decide) hv #[.int .i64 n, .int .i64 a] rfl (fun u hu => by simp at hu; rcases hu with rfl | rfl <;> rfl) (by omega) hb2.size
  have HT : Hid (w'.ownsRow X.heap.size 125 2 v' (wo n c.H ++ [(n, a)]).length (flatH (wo n c.H ++ [(n, a)]))) := show World.ownsRow w' X.heap.size 125 2 v' (wo n c.H ++ [(n, a)]).length (flatH (wo n c.H ++ [(n, a)])) from by rw [flatH_app, List.length_append, ← HM.out]; exact h2
  have HB2 : Hid (Below X.heap.size X w') := hb2.trans (h3.below (fun j hj => (ownsRow_lt hv hj).1) hb2.size)
  have HRN : Hid _ := h1
  clear h1 h2 h3 hv hb2 hP2 HW x0 x1 x2 x3 x4 p0
  go_wp2_with (at_builtin; refine wpList_runs rfl _ _ 91 rfl rfl rfl HRN.out ?_)
  go_ret
  exact ⟨_, rfl, ownsRow_mono HT.out HBX.out.size, HBX.out.trans (HB2.out.mono HBX.out.size)⟩
end Go.Proofs.Ytaiknlnjahjeiaa
namespace Go.Proofs.Ytaiknlnjahjeiaa
open Go.RowKit Go.PlainAid Go.MapKept
set_option linter.unusedVariables false
set_option linter.unusedSimpArgs false
def flatR (M : List RC) : List Value := M.flatMap RC.row
theorem flatR_at {M : List RC} {q : Nat} {c : RC} (j : Nat) (h : M[q]? = some c) (hj : j < 5) : (flatR M)[q * 5 + j]? = c.row[j]? := flat_at RC.row 5 (fun _ => rfl) M q j c h hj
theorem flatR_app (a : List RC) (c : RC) : flatR (a ++ [c]) = flatR a ++ c.row := by simp [flatR]
/-- The document's map in memory. -/
structure RMap (B rb : Nat) (v : Value) (M : List RC) (w : World) : Prop where
  box : Blk w rb #[v] 90
  row : w.ownsRow B 94 5 v M.length (flatR M)
theorem RMap.more {B rb : Nat} {v : Value} {M : List RC} {w w' : World} (h : RMap B rb v M w) (hb : Below w.heap.size w w') : RMap B rb v M w' := ⟨h.box.below hb h.box.lt, ownsRow_same h.row (fun g hg => hb.block g (ownsRow_lt h.row hg).2)⟩
/-- What holds of the document's counters. -/
structure RAll (B K : Nat) (M : List RC) (w : World) : Prop where
  rd : ∀ c ∈ M, c.Rd B w
  ok : ∀ c ∈ M, c.Ok K
  len : M.length ≤ K
  kd : M.Pairwise (fun a b => a.nm ≠ b.nm)
theorem RAll.more {B K : Nat} {M : List RC} {w w' : World} (h : RAll B K M w) (hb : Below w.heap.size w w') : RAll B K M w' := ⟨fun c hc => (h.rd c hc).more hb, h.ok, h.len, h.kd⟩
def rlook (n : List UInt8) (M : List RC) : Option RC := M.find? fun c => decide (c.nm = n)
theorem rlook_at {n : List UInt8} : ∀ {M : List RC} {c : RC}, rlook n M = some c → ∃ q : Nat, M[q]? = some c ∧ c.nm = n ∧ ∀ (i : Nat) (x : RC), i < q → M[i]? = some x → x.nm ≠ n
  | [], c, h => by simp [rlook] at h
  | y :: t, c, h => by
    by_cases e : y.nm = n
    · have : rlook n (y :: t) = some y := by simp [rlook, e]
      rw [this] at h
      cases h
      exact ⟨0, rfl, e, fun i x hi => absurd hi (Nat.not_lt_zero _)⟩
    · have e2 : rlook n (y :: t) = rlook n t := by simp [rlook, e]
      rw [e2] at h
      obtain ⟨q, h1, h2, h3⟩ := rlook_at h
      refine ⟨q + 1, by simpa using h1, h2, fun i x hi hx => ?_⟩
      cases i with
      | zero => simp at hx; subst hx; exact e
      | succ i => exact h3 i x (by omega) (by simpa using hx)
theorem rlook_none {n : List UInt8} {M : List RC} (h : rlook n M = none) : ∀ c ∈ M, c.nm ≠ n := fun c hc => by
  have := List.find?_eq_none.1 h c hc
  simpa using this
theorem rlook_mem {n : List UInt8} {M : List RC} {c : RC} (h : rlook n M = some c) : c ∈ M ∧ c.nm = n := by
  obtain ⟨q, h1, h2, _⟩ := rlook_at h
  exact ⟨List.mem_of_getElem? h1, h2⟩
set_option maxRecDepth 100000 in
theorem rnew_any (w : World) : Calls Try.prog 35 #[] w fun e w' => e = .returned (.pointer (some ⟨w.heap.size, 0, none⟩)) ∧ w' = w.alloc (.cells #[.slice none 0 0] 90) := by
  go_enter Try.func35, Try.ntmps35
  go_wp2_with fail
  go_ret
  exact ⟨rfl, rfl⟩
set_option maxRecDepth 100000 in
set_option maxHeartbeats 1600000 in
theorem find_any {B rb : Nat} {v : Value} {M : List RC} (n : List UInt8) (w : World) (h : RMap B rb v M w) (hK : M.length ≤ 100000) (q0 : Nat) (hq0 : q0 ≤ M.length) (hbef : ∀ i x, i < q0 → M[i]? = some x → x.nm ≠ n) (hat : ∀ x, M[q0]? = some x → x.nm = n) :
    Calls Try.prog 59 #[.pointer (some ⟨rb, 0, none⟩), .string ⟨n.toArray⟩] w fun e w' => e = .returned (.int .i64 (if q0 < M.length then (q0 : Int) else -1)) ∧ w' = w := by
  obtain ⟨N, hN⟩ : ∃ N, N = M.length := ⟨_, rfl⟩
  have HN : Hid (N = M.length) := hN
  rw [← hN] at hK hq0 ⊢
  have hrow := h.row
  rw [← hN] at hrow
  have b0 : w.cell? ⟨rb, 0, none⟩ = some v := h.box.cell 0
  obtain ⟨ro, rc, hv, _⟩ := own_slice hrow
  subst hv
  have HR : Hid (w.ownsRow B 94 5 (.slice ro N rc) N (flatR M)) := hrow
  have HBE : Hid (∀ i x, i < q0 → M[i]? = some x → x.nm ≠ n) := hbef
  have HAT : Hid (∀ x, M[q0]? = some x → x.nm = n) := hat
  clear h hrow hN hbef hat
  go_enter Try.func59, Try.ntmps59
  go_wp2_with fail
  go_loopw [5] (fun s5 wr => ∃ q : Nat, q ≤ N ∧ q ≤ q0 ∧ s5 = .int .i64 q ∧ wr = w) (fun s5 _ => N - (intOf s5).toNat)
  case atStart => exact ⟨0, Nat.zero_le _, Nat.zero_le _, rfl, rfl⟩
  case round =>
    obtain ⟨q, hqN, hqq, rfl, rfl⟩ := hrel
    by_cases hlt : q < N
    · obtain ⟨p, hp⟩ : ∃ p, M[q]? = some p := ⟨_, List.getElem?_eq_getElem (by rw [← HN.out]; exact hlt)⟩
      obtain ⟨g, gc, hg, _, _, hgl, hcell⟩ := own_at' HR.out (by omega)
      cases hg
      have c0 : wr.cell? ⟨g, q * 5, none⟩ = some (.string ⟨p.nm.toArray⟩) := hcell (q * 5) _ (flatR_at 0 hp (by decide))
      by_cases hq : q = q0
      · have hn := HAT.out p (by rw [← hq]; exact hp)
        have HI : Hid (q0 < N) := show q0 < N from by omega
        have HQ : Hid (q = q0) := hq
        obtain ⟨p1, p2, p3, p4, p5, p6, p7⟩ := p
        simp only at hn c0
        subst hn
        have hq1 : (p1 == p1) = true := by simp
        clear hcell hgl hp hq
        go_wp2_with fail
        go_ret
        exact ⟨by first | (rw [if_pos HI.out, ← HQ.out]; rfl) | (rw [← HQ.out]; rfl) | (simp only [if_pos HI.out, ← HQ.out]; rfl), rfl⟩
      · have hne := HBE.out q p (by omega) hp
        have hq1 : (p.nm == n) = false := by simpa using hne
        have hq2 : ¬ (⟨p.nm.toArray⟩ : ByteArray) = ⟨n.toArray⟩ := fun e => hne (by simpa using e)
        clear hcell hgl hp
        go_wp2_with fail
        go_roundw
        case rel => exact ⟨q + 1, by omega, by omega, by go_num, by first | rfl | trivial⟩
        case measure => simp [intOf]; omega
    · have HI : Hid (¬ q0 < N) := show ¬ q0 < N from by omega
      go_wp2_with fail
      go_ret
      exact ⟨by first | rfl | (rw [if_neg HI.out]; rfl), rfl⟩
theorem find_yes {B rb q : Nat} {v : Value} {M : List RC} {c : RC} {n : List UInt8} (w : World) (h : RMap B rb v M w) (hK : M.length ≤ 100000) (hq : M[q]? = some c) (hn : c.nm = n) (hb : ∀ i x, i < q → M[i]? = some x → x.nm ≠ n) :
    Calls Try.prog 59 #[.pointer (some ⟨rb, 0, none⟩), .string ⟨n.toArray⟩] w fun e w' => e = .returned (.int .i64 (q : Nat)) ∧ w' = w := by
  have hlt := (List.getElem?_eq_some_iff.1 hq).1
  have := find_any n w h hK q (Nat.le_of_lt hlt) hb (fun x hx => by rw [hq] at hx; cases hx; exact hn)
  rw [if_pos hlt] at this
  exact this
theorem find_no {B rb : Nat} {v : Value} {M : List RC} {n : List UInt8} (w : World) (h : RMap B rb v M w) (hK : M.length ≤ 100000) (hn : ∀ c ∈ M, c.nm ≠ n) :
    Calls Try.prog 59 #[.pointer (some ⟨rb, 0, none⟩), .string ⟨n.toArray⟩] w fun e w' => e = .returned (.int .i64 (-1)) ∧ w' = w := by
  have := find_any n w h hK M.length (Nat.le_refl _) (fun i x _ hx => hn x (List.mem_of_getElem? hx)) (fun x hx => by simp at hx)
  rw [if_neg (Nat.lt_irrefl _)] at this
  exact this
set_option maxRecDepth 100000 in
set_option maxHeartbeats 1600000 in
theorem rnames_any {B rb : Nat} {v : Value} {M : List RC} (w : World) (h : RMap B rb v M w) (hK : M.length ≤ 100000) :
    Calls Try.prog 40 #[.pointer (some ⟨rb, 0, none⟩)] w fun e w' => ∃ u, e = .returned u ∧ w'.ownsRow w.heap.size 9 1 u M.length ((M.map RC.nm).map Str) ∧ Below w.heap.size w w' := by
  obtain ⟨N, hN⟩ : ∃ N, N = M.length := ⟨_, rfl⟩
  have HN : Hid (N = M.length) := hN
  rw [← hN] at hK ⊢
  have hrow := h.row
  rw [← hN] at hrow
  obtain ⟨ro, rc, hv, _⟩ := own_slice hrow
  have HBX : Hid (Blk w rb #[v] 90) := h.box
  subst hv
  have HR : Hid (w.ownsRow B 94 5 (.slice ro N rc) N (flatR M)) := hrow
  clear h hrow hN
  go_enter Try.func40, Try.ntmps40
  go_wp2_with fail
  go_loopw [3, 4] (fun s3 s4 wr => ∃ (q : Nat) (u : Value), u = s3 ∧ q ≤ N ∧ s4 = .int .i64 q ∧ wr.ownsRow w.heap.size 9 1 u q (((M.take q).map RC.nm).map Str) ∧ Below w.heap.size w wr) (fun _ s4 _ => N - (intOf s4).toNat)
  case atStart => exact ⟨0, _, rfl, Nat.zero_le _, rfl, World.ownsRow_nil _ _ _ _, Below.refl _ _⟩
  case round =>
    obtain ⟨q, u, rfl, hqN, rfl, hu, hbw⟩ := hrel
    have hB2 := HBX.out.below hbw HBX.out.lt
    have b0 : wr.cell? ⟨rb, 0, none⟩ = some (.slice ro N rc) := hB2.cell 0
    have HU : Hid (wr.ownsRow w.heap.size 9 1 u q (((M.take q).map RC.nm).map Str)) := hu
    have HBW : Hid (Below w.heap.size w wr) := hbw
    obtain ⟨uo, uc, huv, _⟩ := own_slice hu
    subst huv
    clear hu hbw hB2
    by_cases hlt : q < N
    · obtain ⟨p, hp⟩ : ∃ p, M[q]? = some p := ⟨_, List.getElem?_eq_getElem (by rw [← HN.out]; exact hlt)⟩
      obtain ⟨g, gc, hg, _, _, hgl, hcell⟩ := own_at' HR.out (by omega)
      cases hg
      have c0 : wr.cell? ⟨g, q * 5, none⟩ = some (.string ⟨p.nm.toArray⟩) := (HBW.out.cell (p := ⟨g, q * 5, none⟩) hgl).trans (hcell (q * 5) _ (flatR_at 0 hp (by decide)))
      obtain ⟨v', w', h1, h2, h3⟩ := app_one 39 9 (.string ⟨#[]⟩) 1 16 Try.underlying39 info9 rfl (by decide) (by decide) HU.out #[.string ⟨p.nm.toArray⟩] rfl (fun u hu => by simp at hu; subst hu; rfl) (by omega) HBW.out.size
      have HT : Hid (w'.ownsRow w.heap.size 9 1 v' (q + 1) (((M.take (q + 1)).map RC.nm).map Str)) := show World.ownsRow w' w.heap.size 9 1 v' (q + 1) _ from by
        rw [show M.take (q + 1) = M.take q ++ [p] from by rw [List.take_add_one, hp]; rfl, List.map_append, List.map_append]
        exact h2
      have HB2 : Hid (Below w.heap.size w w') := HBW.out.trans (h3.below (fun j hj => (ownsRow_lt HU.out hj).1) HBW.out.size)
      have HRN : Hid _ := h1
      clear hcell hgl hp h1 h2 h3
      go_wp2_with (at_builtin; refine wpList_runs rfl _ _ 39 rfl rfl rfl HRN.out ?_)
      go_roundw
      case rel => exact ⟨q + 1, _, rfl, by omega, by go_num, HT.out, HB2.out⟩
      case measure => simp [intOf]; omega
    · have hq : M.take q = M := List.take_of_length_le (by rw [← HN.out]; omega)
      have hqq : q = N := by omega
      have HF : Hid (wr.ownsRow w.heap.size 9 1 (.slice uo q uc) N ((M.map RC.nm).map Str)) := show World.ownsRow wr w.heap.size 9 1 (.slice uo q uc) N _ from by have h1 := HU.out; rw [hq] at h1; rw [← hqq]; exact h1
      clear hq hqq
      go_wp2_with fail
      go_ret
      exact ⟨_, rfl, HF.out, HBW.out⟩
/-- What Peek tells. -/
def rpk (n : List UInt8) (M : List RC) : (Int × Int × Int) × Bool := match rlook n M with
  | some c => ((c.val, sumH c.H, c.cap), true)
  | none => ((0, 0, 0), false)
set_option maxRecDepth 100000 in
set_option maxHeartbeats 1600000 in
theorem rpeek_any {B K rb : Nat} {v : Value} {M : List RC} (n : List UInt8) (w : World) (h : RMap B rb v M w) (hA : RAll B K M w) (hK : K ≤ 100000) :
    Calls Try.prog 61 #[.pointer (some ⟨rb, 0, none⟩), .string ⟨n.toArray⟩] w fun e w' => e = .returned (.tuple #[.int .i64 (rpk n M).1.1, .int .i64 (rpk n M).1.2.1, .int .i64 (rpk n M).1.2.2, .bool (rpk n M).2]) ∧ Below w.heap.size w w' := by
  have hMK : M.length ≤ 100000 := Nat.le_trans hA.len hK
  unfold rpk
  cases hl : rlook n M with
  | none =>
    have HF : Hid _ := find_no w h hMK (rlook_none hl)
    clear h hA hl hMK
    simp only
    go_enter Try.func61, Try.ntmps61
    go_wp2_with fail
    refine Calls.mono HF.out ?_
    rintro e9 w9 ⟨rfl, hw⟩
    replace hw := hw.symm
    subst hw
    go_wp2_with fail
    refine bodyPost_ret (results_tmp4g rfl _ _ _) rfl ?_
    exact ⟨rfl, Below.refl _ _⟩
  | some c =>
    obtain ⟨q, h1, h2, h3⟩ := rlook_at hl
    have hcm := List.mem_of_getElem? h1
    have HF : Hid _ := find_yes w h hMK h1 h2 h3
    have hlt := (List.getElem?_eq_some_iff.1 h1).1
    have hq : q ≤ 100000 := by omega
    obtain ⟨N, hN⟩ : ∃ N, N = M.length := ⟨_, rfl⟩
    have hrow := h.row
    rw [← hN] at hrow hlt
    have b0 : w.cell? ⟨rb, 0, none⟩ = some v := h.box.cell 0
    obtain ⟨g, gc, hg, _, _, hgl, hcell⟩ := own_at' hrow (by omega)
    subst hg
    have c0 : w.cell? ⟨g, q * 5, none⟩ = some (.string ⟨c.nm.toArray⟩) := hcell (q * 5) _ (flatR_at 0 h1 (by decide))
    have c1 : w.cell? ⟨g, q * 5 + 1, none⟩ = some (.int .i64 c.cap) := hcell (q * 5 + 1) _ (flatR_at 1 h1 (by decide))
    have c2 : w.cell? ⟨g, q * 5 + 2, none⟩ = some (.int .i64 c.val) := hcell (q * 5 + 2) _ (flatR_at 2 h1 (by decide))
    have c3 : w.cell? ⟨g, q * 5 + 3, none⟩ = some c.hv := hcell (q * 5 + 3) _ (flatR_at 3 h1 (by decide))
    have c4 : w.cell? ⟨g, q * 5 + 4, none⟩ = some c.uv := hcell (q * 5 + 4) _ (flatR_at 4 h1 (by decide))
    have hRd := hA.rd c hcm
    have hOk := hA.ok c hcm
    have hh1 : c.hv.oneCell' = true := by obtain ⟨a, b, e, _⟩ := own_slice hRd.h; rw [e]; rfl
    have hu1 : c.uv.oneCell' = true := by obtain ⟨a, b, e, _⟩ := own_slice hRd.u; rw [e]; rfl
    have hst1 : ∀ (A : Addr) (m : Mode) (W : World), (store A c.hv m).run Try.prog W = stored Try.prog W A c.hv m := fun A m W => run_store _ _ _ _ _ hh1
    have hst2 : ∀ (A : Addr) (m : Mode) (W : World), (store A c.uv m).run Try.prog W = stored Try.prog W A c.uv m := fun A m W => run_store _ _ _ _ _ hu1
    obtain ⟨cb, hcb⟩ : ∃ b, b = w.heap.size := ⟨_, rfl⟩
    obtain ⟨X, hX⟩ : ∃ X, X = w.alloc (.cells #[.string ⟨c.nm.toArray⟩, .int .i64 c.cap, .int .i64 c.val, c.hv, c.uv] 94) := ⟨_, rfl⟩
    have hbX : Below w.heap.size w X := by rw [hX]; exact (Below.refl _ _).alloc (Nat.le_refl _) _
    have HB : Hid (Blk X cb #[.string ⟨c.nm.toArray⟩, .int .i64 c.cap, .int .i64 c.val, c.hv, c.uv] 94) := show Blk X cb #[.string ⟨c.nm.toArray⟩, .int .i64 c.cap, .int .i64 c.val, c.hv, c.uv] 94 from by rw [hX, hcb]; exact heap_alloc_new w _
    have HBX : Hid (Below w.heap.size w X) := hbX
    have HRX : Hid (c.Rd B X) := hRd.more hbX
    have HOk : Hid (c.Ok K) := hOk
    have HHE : Hid (∀ W, Below X.heap.size X W → Calls Try.prog 74 #[.agg #[.string ⟨c.nm.toArray⟩, .int .i64 c.cap, .int .i64 c.val, c.hv, c.uv]] W (BoxPost W (.int .i64 (sumH c.H)))) := fun W hW => held_any W (HRX.out.more hW) HOk.out hK
    clear h hA hl hMK h1 h2 h3 hcm hN hrow hgl hcell hRd hOk hbX
    simp only
    go_enter Try.func61, Try.ntmps61
    go_wp2_with fail
    refine Calls.mono HF.out ?_
    rintro e9 w9 ⟨rfl, hw⟩
    replace hw := hw.symm
    subst hw
    go_upto_region 5 with fail
    rw [← hX, ← hcb]
    clear hX hcb c0 c1 c2 c3 c4 b0 HF
    go_wp2_with fail
    first | rename_i KK hKK | skip
    try rw [show ∀ a : Act, a.put none undef = a from fun _ => rfl]
    refine wp_region_mix (fun wq => Blk wq cb #[.string ⟨c.nm.toArray⟩, .int .i64 c.cap, .int .i64 c.val, c.hv, c.uv] 94 ∧ Below X.heap.size X wq) (fun i => i == 3 || i == 99) 99 (by kernel_rfl) rfl (by kernel_rfl) (by kernel_rfl) (by kernel_rfl) ?_
    refine withFrP (N := 28) rfl ?_
    intro f0 F0 hff
    have ee9 : f0 9 = Value.pointer (some ⟨cb, 0, none⟩) := hff 9
    clear hff
    have HCC : (fun wq => Blk wq cb #[.string ⟨c.nm.toArray⟩, .int .i64 c.cap, .int .i64 c.val, c.hv, c.uv] 94 ∧ Below X.heap.size X wq) (({ X with drawn := X.drawn + 1 } : World)) := ⟨HB.out, Below.drew (Below.refl _ _)⟩
    refine lyp F0 rfl HCC rfl (by omega) (wanted_none rfl) (v := Value.pointer (some ⟨cb, 2, none⟩)) (fun wr hwr => by simp only [execOp, (F0.eval 9 (by omega)).trans (show _ = Value.pointer (some ⟨cb, 0, none⟩) from by simp [upd, ee9])]; simp [go_sem]) fun F1 => ?_
    refine lyp F1 rfl HCC rfl (by omega) (wanted_none rfl) (v := Value.int .i64 c.val) (fun wr hwr => by simp only [execOp, (F1.eval 22 (by omega)).trans (show _ = Value.pointer (some ⟨cb, 2, none⟩) from by simp [upd, ee9])]; simp [go_sem, show wr.cell? ⟨cb, 2, none⟩ = some (.int .i64 c.val) from hwr.1.cell 2]) fun F2 => ?_
    refine lyp F2 rfl HCC rfl (by omega) (wanted_none rfl) (v := Value.agg #[.string ⟨c.nm.toArray⟩, .int .i64 c.cap, .int .i64 c.val, c.hv, c.uv]) (fun wr hwr => by simp only [execOp, (F2.eval 9 (by omega)).trans (show _ = Value.pointer (some ⟨cb, 0, none⟩) from by simp [upd, ee9])]; simp [go_sem, show wr.cell? ⟨cb, 0, none⟩ = some (.string ⟨c.nm.toArray⟩) from hwr.1.cell 0, show wr.cell? ⟨cb, 1, none⟩ = some (.int .i64 c.cap) from hwr.1.cell 1, show wr.cell? ⟨cb, 2, none⟩ = some (.int .i64 c.val) from hwr.1.cell 2, show wr.cell? ⟨cb, 3, none⟩ = some c.hv from hwr.1.cell 3, show wr.cell? ⟨cb, 4, none⟩ = some c.uv from hwr.1.cell 4]) fun F3 => ?_
    refine lcp F3 rfl HCC rfl (by omega) (wanted_none rfl) (g := 74) (args := #[Value.agg #[.string ⟨c.nm.toArray⟩, .int .i64 c.cap, .int .i64 c.val, c.hv, c.uv]]) (by simp only [execOp, resolve, invoke, List.map_toArray, List.map_cons, List.map_nil, (F3.eval 24 (by omega)).trans (show _ = Value.agg #[.string ⟨c.nm.toArray⟩, .int .i64 c.cap, .int .i64 c.val, c.hv, c.uv] from by simp [upd, ee9])]; simp [go_sem, Act.eval]) (HHE.out (({ X with drawn := X.drawn + 1 } : World)) HCC.2) ?_
    rintro e9 w3 ⟨rfl, hb3⟩
    refine ⟨_, rfl, fun F4 => ?_⟩
    have HC2 : (fun wq => Blk wq cb #[.string ⟨c.nm.toArray⟩, .int .i64 c.cap, .int .i64 c.val, c.hv, c.uv] 94 ∧ Below X.heap.size X wq) w3 := ⟨HCC.1.below hb3 HCC.1.lt, HCC.2.trans (hb3.mono HCC.2.size)⟩
    refine lyp F4 rfl HC2 rfl (by omega) (wanted_none rfl) (v := Value.pointer (some ⟨cb, 1, none⟩)) (fun wr hwr => by simp only [execOp, (F4.eval 9 (by omega)).trans (show _ = Value.pointer (some ⟨cb, 0, none⟩) from by simp [upd, ee9])]; simp [go_sem]) fun F5 => ?_
    refine lyp F5 rfl HC2 rfl (by omega) (wanted_none rfl) (v := Value.int .i64 c.cap) (fun wr hwr => by simp only [execOp, (F5.eval 26 (by omega)).trans (show _ = Value.pointer (some ⟨cb, 1, none⟩) from by simp [upd, ee9])]; simp [go_sem, show wr.cell? ⟨cb, 1, none⟩ = some (.int .i64 c.cap) from hwr.1.cell 1]) fun F6 => ?_
    refine lyp F6 rfl HC2 rfl (by omega) (wanted_none rfl) (v := Value.int .i64 c.val) (fun wr hwr => by simp only [execOp, (F6.eval 23 (by omega)).trans (show _ = Value.int .i64 c.val from by simp [upd, ee9])]; first | rfl | simp [go_sem]) fun F7 => ?_
    refine lyp F7 rfl HC2 rfl (by omega) (wanted_none rfl) (v := Value.int .i64 (sumH c.H)) (fun wr hwr => by simp only [execOp, (F7.eval 25 (by omega)).trans (show _ = Value.int .i64 (sumH c.H) from by simp [upd, ee9])]; first | rfl | simp [go_sem]) fun F8 => ?_
    refine lyp F8 rfl HC2 rfl (by omega) (wanted_none rfl) (v := Value.int .i64 c.cap) (fun wr hwr => by simp only [execOp, (F8.eval 27 (by omega)).trans (show _ = Value.int .i64 c.cap from by simp [upd, ee9])]; first | rfl | simp [go_sem]) fun F9 => ?_
    refine lyp F9 rfl HC2 rfl (by omega) (wanted_none rfl) (v := Value.bool true) (fun wr hwr => by simp [execOp, Act.eval]; try rfl) fun F10 => ?_
    have HFB : Hid (Below w.heap.size w w3) := HBX.out.trans (HC2.2.mono HBX.out.size)
    refine ⟨fun _ => HC2, ?_⟩
    first | refine hKK _ _ ?_ | skip
    clear F0 F1 F2 F3 F4 F5 F6 F7 F8 F9 F10 ee9 HCC HC2
    simp only [Act.put, List.setIfInBounds_toArray, List.set_cons_succ, List.set_cons_zero]
    go_wp2_with fail
    refine bodyPost_ret (results_tmp4g rfl _ _ _) rfl ?_
    exact ⟨by first | rfl | simp, HFB.out⟩
end Go.Proofs.Ytaiknlnjahjeiaa
namespace Go.Proofs.Ytaiknlnjahjeiaa
open Go.RowKit Go.PlainAid Go.MapKept
set_option linter.unusedVariables false
set_option linter.unusedSimpArgs false
theorem cell_belowR {w w' : World} {b o : Nat} {v : Value} (hb : Below w.heap.size w w') (h : w.cell? ⟨b, o, none⟩ = some v) : w'.cell? ⟨b, o, none⟩ = some v := (hb.cell (p := ⟨b, o, none⟩) (World.block_lt_of_cell? w _ h)).trans h
set_option maxRecDepth 100000 in
set_option maxHeartbeats 3200000 in
theorem rcopy_any {B K rb : Nat} {v : Value} {M : List RC} (w : World) (h : RMap B rb v M w) (hA : RAll B K M w) (hK : K ≤ 100000) :
    Calls Try.prog 26 #[.pointer (some ⟨rb, 0, none⟩)] w fun e w' => ∃ tb v', e = .returned (.pointer (some ⟨tb, 0, none⟩)) ∧ RMap w.heap.size tb v' M w' ∧ w.heap.size ≤ tb ∧ Below w.heap.size w w' := by
  obtain ⟨N, hN⟩ : ∃ N, N = M.length := ⟨_, rfl⟩
  have HN : Hid (N = M.length) := hN
  have hNK : N ≤ 100000 := by rw [hN]; exact Nat.le_trans hA.len hK
  have hrow := h.row
  rw [← hN] at hrow
  obtain ⟨ro, rc, hv, _⟩ := own_slice hrow
  have HBX : Hid (Blk w rb #[v] 90) := h.box
  subst hv
  have HR : Hid (w.ownsRow B 94 5 (.slice ro N rc) N (flatR M)) := hrow
  have HA : Hid (RAll B K M w) := hA
  obtain ⟨tb, htb⟩ : ∃ b, b = w.heap.size := ⟨_, rfl⟩
  obtain ⟨X, hX⟩ : ∃ X, X = w.alloc (.cells #[.slice none 0 0] 90) := ⟨_, rfl⟩
  have hbX : Below w.heap.size w X := by rw [hX]; exact (Below.refl _ _).alloc (Nat.le_refl _) _
  have hTX : Blk X tb #[.slice none 0 0] 90 := by rw [hX, htb]; exact heap_alloc_new w _
  have H0 : Hid (RMap w.heap.size tb (.slice none 0 0) (M.take 0) X) := ⟨hTX, World.ownsRow_nil _ _ _ _⟩
  have HBX0 : Hid (Below w.heap.size w X) := hbX
  have HTL : Hid (w.heap.size ≤ tb) := show w.heap.size ≤ tb from by omega
  clear h hA hrow hN hbX hTX
  go_enter Try.func26, Try.ntmps26
  go_upto_region 2 with fail
  rw [← hX, ← htb]
  clear hX htb
  go_wp2_with fail
  go_loopw [4] (fun s4 wr => ∃ (q : Nat) (v' : Value), q ≤ N ∧ s4 = .int .i64 q ∧ RMap w.heap.size tb v' (M.take q) wr ∧ Below w.heap.size w wr) (fun s4 _ => N - (intOf s4).toNat)
  case atStart => exact ⟨0, _, Nat.zero_le _, rfl, H0.out, HBX0.out⟩
  case round =>
    obtain ⟨q, v', hqN, rfl, hT, hbw⟩ := hrel
    have HBW : Hid (Below w.heap.size w wr) := hbw
    have hRB := HBX.out.below hbw HBX.out.lt
    have HRB0 : Hid (Blk wr rb #[.slice ro N rc] 90) := hRB
    have b0 : wr.cell? ⟨rb, 0, none⟩ = some (.slice ro N rc) := hRB.cell 0
    have HT : Hid (RMap w.heap.size tb v' (M.take q) wr) := hT
    clear hT hbw hRB H0 HBX0
    by_cases hlt : q < N
    · obtain ⟨c, hp⟩ : ∃ c, M[q]? = some c := ⟨_, List.getElem?_eq_getElem (by rw [← HN.out]; exact hlt)⟩
      have htl : (M.take q).length = q := by rw [List.length_take, ← HN.out]; omega
      obtain ⟨g, gc, hg, _, _, hgl, hcell⟩ := own_at' HR.out (by omega)
      cases hg
      have k0 : wr.cell? ⟨g, q * 5, none⟩ = some (.string ⟨c.nm.toArray⟩) := (HBW.out.cell (p := ⟨g, q * 5, none⟩) hgl).trans (hcell (q * 5) _ (flatR_at 0 hp (by decide)))
      have k1 : wr.cell? ⟨g, q * 5 + 1, none⟩ = some (.int .i64 c.cap) := (HBW.out.cell (p := ⟨g, q * 5 + 1, none⟩) hgl).trans (hcell (q * 5 + 1) _ (flatR_at 1 hp (by decide)))
      have k2 : wr.cell? ⟨g, q * 5 + 2, none⟩ = some (.int .i64 c.val) := (HBW.out.cell (p := ⟨g, q * 5 + 2, none⟩) hgl).trans (hcell (q * 5 + 2) _ (flatR_at 2 hp (by decide)))
      have k3 : wr.cell? ⟨g, q * 5 + 3, none⟩ = some c.hv := (HBW.out.cell (p := ⟨g, q * 5 + 3, none⟩) hgl).trans (hcell (q * 5 + 3) _ (flatR_at 3 hp (by decide)))
      have k4 : wr.cell? ⟨g, q * 5 + 4, none⟩ = some c.uv := (HBW.out.cell (p := ⟨g, q * 5 + 4, none⟩) hgl).trans (hcell (q * 5 + 4) _ (flatR_at 4 hp (by decide)))
      have hrd := HA.out.rd c (List.mem_of_getElem? hp)
      have hh1 : c.hv.oneCell' = true := by obtain ⟨a, b, e, _⟩ := own_slice hrd.h; rw [e]; rfl
      have hu1 : c.uv.oneCell' = true := by obtain ⟨a, b, e, _⟩ := own_slice hrd.u; rw [e]; rfl
      have hst1 : ∀ (A : Addr) (m : Mode) (W : World), (store A c.hv m).run Try.prog W = stored Try.prog W A c.hv m := fun A m W => run_store _ _ _ _ _ hh1
      have hst2 : ∀ (A : Addr) (m : Mode) (W : World), (store A c.uv m).run Try.prog W = stored Try.prog W A c.uv m := fun A m W => run_store _ _ _ _ _ hu1
      have hTr := HT.out.row
      rw [htl] at hTr
      obtain ⟨to, tc, hv', _⟩ := own_slice hTr
      subst hv'
      have HTB : Hid (Blk wr tb #[.slice to q tc] 90) := HT.out.box
      have HRB : Hid (Blk wr rb #[.slice (some ⟨g, 0, none⟩) N rc] 90) := HRB0.out
      have hTd : World.ownsRow ({ wr with drawn := wr.drawn + 1 } : World) w.heap.size 94 5 (.slice to q tc) q (flatR (M.take q)) := hTr
      obtain ⟨v5, w5, h1, h2, h3⟩ := app_one 88 94 (.agg #[.string ⟨#[]⟩, .int .i64 0, .int .i64 0, .slice none 0 0, .slice none 0 0]) 5 80 Try.underlying88 info94 rfl (by decide) (by decide) hTd #[.string ⟨c.nm.toArray⟩, .int .i64 c.cap, .int .i64 c.val, c.hv, c.uv] rfl (fun u hu => by simp at hu; rcases hu with rfl | rfl | rfl | rfl | rfl <;> first | rfl | exact hh1 | exact hu1) (by omega) HBW.out.size
      have hch : Chg (fun k => (Value.slice to q tc).ownBlock = some k) wr w5 := by have := h3.chg; exact ⟨this.os, this.tape, this.output, this.size, this.block⟩
      have hlo : ∀ k, (Value.slice to q tc).ownBlock = some k → w.heap.size ≤ k := fun k hk => (ownsRow_lt hTr hk).1
      have hb5 : Below w.heap.size wr w5 := hch.below HBW.out.size hlo
      have hty : ∀ k, (Value.slice to q tc).ownBlock = some k → k ≠ tb := fun k hk e => by
        obtain ⟨cu, hcu⟩ := ownsRow_type hTr hk
        exact Blk.ne_t (show Blk wr k cu 94 from hcu) HTB.out (by decide) e
      have ht5 : Blk w5 tb #[.slice to q tc] 90 := hch.blk HTB.out (fun hk => hty tb hk rfl)
      have hr5 : Blk w5 rb #[.slice (some ⟨g, 0, none⟩) N rc] 90 := HRB.out.below hb5 HBX.out.lt
      have HC5F : Hid ((fun wq => Blk wq tb #[.slice to q tc] 90 ∧ Blk wq rb #[.slice (some ⟨g, 0, none⟩) N rc] 90 ∧ wq.cell? ⟨g, q * 5, none⟩ = some (.string ⟨c.nm.toArray⟩) ∧ wq.cell? ⟨g, q * 5 + 1, none⟩ = some (.int .i64 c.cap) ∧ wq.cell? ⟨g, q * 5 + 2, none⟩ = some (.int .i64 c.val) ∧ wq.cell? ⟨g, q * 5 + 3, none⟩ = some c.hv ∧ wq.cell? ⟨g, q * 5 + 4, none⟩ = some c.uv) w5) := ⟨ht5, hr5, (hb5.cell (p := ⟨g, q * 5, none⟩) hgl).trans k0, (hb5.cell (p := ⟨g, q * 5 + 1, none⟩) hgl).trans k1, (hb5.cell (p := ⟨g, q * 5 + 2, none⟩) hgl).trans k2, (hb5.cell (p := ⟨g, q * 5 + 3, none⟩) hgl).trans k3, (hb5.cell (p := ⟨g, q * 5 + 4, none⟩) hgl).trans k4⟩
      have HCK : Hid (∀ a b : World, Below a.heap.size a b → (fun wq : World => Blk wq tb #[.slice to q tc] 90 ∧ Blk wq rb #[.slice (some ⟨g, 0, none⟩) N rc] 90 ∧ wq.cell? ⟨g, q * 5, none⟩ = some (.string ⟨c.nm.toArray⟩) ∧ wq.cell? ⟨g, q * 5 + 1, none⟩ = some (.int .i64 c.cap) ∧ wq.cell? ⟨g, q * 5 + 2, none⟩ = some (.int .i64 c.val) ∧ wq.cell? ⟨g, q * 5 + 3, none⟩ = some c.hv ∧ wq.cell? ⟨g, q * 5 + 4, none⟩ = some c.uv) a → (fun wq : World => Blk wq tb #[.slice to q tc] 90 ∧ Blk wq rb #[.slice (some ⟨g, 0, none⟩) N rc] 90 ∧ wq.cell? ⟨g, q * 5, none⟩ = some (.string ⟨c.nm.toArray⟩) ∧ wq.cell? ⟨g, q * 5 + 1, none⟩ = some (.int .i64 c.cap) ∧ wq.cell? ⟨g, q * 5 + 2, none⟩ = some (.int .i64 c.val) ∧ wq.cell? ⟨g, q * 5 + 3, none⟩ = some c.hv ∧ wq.cell? ⟨g, q * 5 + 4, none⟩ = some c.uv) b) := fun a b hb ⟨e1, e2, e3, e4, e5, e6, e7⟩ => ⟨e1.below hb e1.lt, e2.below hb e2.lt, cell_belowR hb e3, cell_belowR hb e4, cell_belowR hb e5, cell_belowR hb e6, cell_belowR hb e7⟩
      obtain ⟨t5, c5, hv5, _⟩ := own_slice h2
      subst hv5
      have hcS : Chg (fun k => k = tb) w5 (w5.setCell ⟨tb, 0, none⟩ (.slice t5 (q + 1) c5)) := setCell_chg _ _ _ _
      have HNX : Hid (RMap w.heap.size tb (.slice t5 (q + 1) c5) (M.take (q + 1)) (w5.setCell ⟨tb, 0, none⟩ (.slice t5 (q + 1) c5))) := ⟨ht5.set 0 (.slice t5 (q + 1) c5), by
        rw [show M.take (q + 1) = M.take q ++ [c] from by rw [List.take_add_one, hp]; rfl, List.length_append, htl, flatR_app]
        refine ownsRow_same h2 (fun k hk => hcS.block k (ownsRow_lt h2 hk).2 (fun e => ?_))
        obtain ⟨cu, hcu⟩ := ownsRow_type h2 hk
        exact Blk.ne_t (show Blk w5 k cu 94 from hcu) ht5 (by decide) e⟩
      have HBN : Hid (Below w.heap.size w (w5.setCell ⟨tb, 0, none⟩ (.slice t5 (q + 1) c5))) := (HBW.out.trans hb5).trans (hcS.below (HBW.out.trans hb5).size (fun k e => by rw [e]; exact HTL.out))
      have HRN : Hid (∀ ty, (Builtin.append_ #[88, 88] ty #[.slice to q tc, .slice (some ⟨wr.heap.size, 0, none⟩) 1 1]).run Try.prog (({ wr with drawn := wr.drawn + 1 } : World).alloc (.cells #[.string ⟨c.nm.toArray⟩, .int .i64 c.cap, .int .i64 c.val, c.hv, c.uv] 94)) = .ok (.slice t5 (q + 1) c5) w5) := h1
      clear hp hgl hcell hrd hTr hTd h1 h2 h3 hch hlo hb5 hty ht5 hr5 hcS hh1 hu1 htl HRB0 HT
      go_wp2_with fail
      first | rename_i KK hKK | skip
      try rw [show ∀ a : Act, a.put none undef = a from fun _ => rfl]
      refine wp_region_mix (fun wq => Blk wq tb #[.slice to q tc] 90 ∧ Blk wq rb #[.slice (some ⟨g, 0, none⟩) N rc] 90 ∧ wq.cell? ⟨g, q * 5, none⟩ = some (.string ⟨c.nm.toArray⟩) ∧ wq.cell? ⟨g, q * 5 + 1, none⟩ = some (.int .i64 c.cap) ∧ wq.cell? ⟨g, q * 5 + 2, none⟩ = some (.int .i64 c.val) ∧ wq.cell? ⟨g, q * 5 + 3, none⟩ = some c.hv ∧ wq.cell? ⟨g, q * 5 + 4, none⟩ = some c.uv) (fun i => i == 12 || i == 13 || i == 16) 16 (by kernel_rfl) rfl (by kernel_rfl) (by kernel_rfl) (by kernel_rfl) ?_
      refine withFrP (N := 33) rfl ?_
      intro f0 F0 hff
      have ee3 : f0 3 = Value.pointer (some ⟨tb, 0, none⟩) := hff 3
      have ee0 : f0 0 = Value.pointer (some ⟨rb, 0, none⟩) := hff 0
      have ee4 : f0 4 = Value.int .i64 (q : Nat) := hff 4
      clear hff
      have HCC : (fun wq => Blk wq tb #[.slice to q tc] 90 ∧ Blk wq rb #[.slice (some ⟨g, 0, none⟩) N rc] 90 ∧ wq.cell? ⟨g, q * 5, none⟩ = some (.string ⟨c.nm.toArray⟩) ∧ wq.cell? ⟨g, q * 5 + 1, none⟩ = some (.int .i64 c.cap) ∧ wq.cell? ⟨g, q * 5 + 2, none⟩ = some (.int .i64 c.val) ∧ wq.cell? ⟨g, q * 5 + 3, none⟩ = some c.hv ∧ wq.cell? ⟨g, q * 5 + 4, none⟩ = some c.uv) (({ wr with drawn := wr.drawn + 1 } : World)) := ⟨HTB.out, HRB.out, k0, k1, k2, k3, k4⟩
      have HC1 : (fun wq => Blk wq tb #[.slice to q tc] 90 ∧ Blk wq rb #[.slice (some ⟨g, 0, none⟩) N rc] 90 ∧ wq.cell? ⟨g, q * 5, none⟩ = some (.string ⟨c.nm.toArray⟩) ∧ wq.cell? ⟨g, q * 5 + 1, none⟩ = some (.int .i64 c.cap) ∧ wq.cell? ⟨g, q * 5 + 2, none⟩ = some (.int .i64 c.val) ∧ wq.cell? ⟨g, q * 5 + 3, none⟩ = some c.hv ∧ wq.cell? ⟨g, q * 5 + 4, none⟩ = some c.uv) ((({ wr with drawn := wr.drawn + 1 } : World)).alloc (.cells #[.string ⟨c.nm.toArray⟩, .int .i64 c.cap, .int .i64 c.val, c.hv, c.uv] 94)) := HCK.out _ _ ((Below.refl _ _).alloc (Nat.le_refl _) _) HCC
      refine lyp F0 rfl HCC rfl (by omega) (wanted_none rfl) (v := Value.pointer (some ⟨tb, 0, none⟩)) (fun wr hwr => by simp only [execOp, (F0.eval 3 (by omega)).trans (show _ = Value.pointer (some ⟨tb, 0, none⟩) from by simp [upd, ee3, ee0, ee4])]; first | rfl | simp [go_sem]) fun F1 => ?_
      refine lyp F1 rfl HCC rfl (by omega) (wanted_none rfl) (v := Value.pointer (some ⟨tb, 0, none⟩)) (fun wr hwr => by simp only [execOp, (F1.eval 3 (by omega)).trans (show _ = Value.pointer (some ⟨tb, 0, none⟩) from by simp [upd, ee3, ee0, ee4])]; first | rfl | simp [go_sem]) fun F2 => ?_
      refine lyp F2 rfl HCC rfl (by omega) (wanted_none rfl) (v := Value.pointer (some ⟨tb, 0, none⟩)) (fun wr hwr => by simp only [execOp, (F2.eval 17 (by omega)).trans (show _ = Value.pointer (some ⟨tb, 0, none⟩) from by simp [upd, ee3, ee0, ee4])]; simp [go_sem]) fun F3 => ?_
      refine lyp F3 rfl HCC rfl (by omega) (wanted_none rfl) (v := Value.pointer (some ⟨tb, 0, none⟩)) (fun wr hwr => by simp only [execOp, (F3.eval 18 (by omega)).trans (show _ = Value.pointer (some ⟨tb, 0, none⟩) from by simp [upd, ee3, ee0, ee4])]; simp [go_sem]) fun F4 => ?_
      refine lyp F4 rfl HCC rfl (by omega) (wanted_none rfl) (v := Value.slice to q tc) (fun wr hwr => by simp only [execOp, (F4.eval 19 (by omega)).trans (show _ = Value.pointer (some ⟨tb, 0, none⟩) from by simp [upd, ee3, ee0, ee4])]; simp [go_sem, show wr.cell? ⟨tb, 0, none⟩ = some (.slice to q tc) from hwr.1.cell 0]) fun F5 => ?_
      refine lyp F5 rfl HCC rfl (by omega) (wanted_none rfl) (v := Value.pointer (some ⟨rb, 0, none⟩)) (fun wr hwr => by simp only [execOp, (F5.eval 0 (by omega)).trans (show _ = Value.pointer (some ⟨rb, 0, none⟩) from by simp [upd, ee3, ee0, ee4])]; first | rfl | simp [go_sem]) fun F6 => ?_
      refine lyp F6 rfl HCC rfl (by omega) (wanted_none rfl) (v := Value.pointer (some ⟨rb, 0, none⟩)) (fun wr hwr => by simp only [execOp, (F6.eval 21 (by omega)).trans (show _ = Value.pointer (some ⟨rb, 0, none⟩) from by simp [upd, ee3, ee0, ee4])]; simp [go_sem]) fun F7 => ?_
      refine lyp F7 rfl HCC rfl (by omega) (wanted_none rfl) (v := Value.pointer (some ⟨rb, 0, none⟩)) (fun wr hwr => by simp only [execOp, (F7.eval 22 (by omega)).trans (show _ = Value.pointer (some ⟨rb, 0, none⟩) from by simp [upd, ee3, ee0, ee4])]; simp [go_sem]) fun F8 => ?_
      refine lyp F8 rfl HCC rfl (by omega) (wanted_none rfl) (v := Value.slice (some ⟨g, 0, none⟩) N rc) (fun wr hwr => by simp only [execOp, (F8.eval 23 (by omega)).trans (show _ = Value.pointer (some ⟨rb, 0, none⟩) from by simp [upd, ee3, ee0, ee4])]; simp [go_sem, show wr.cell? ⟨rb, 0, none⟩ = some (.slice (some ⟨g, 0, none⟩) N rc) from hwr.2.1.cell 0]) fun F9 => ?_
      refine lyp F9 rfl HCC rfl (by omega) (wanted_none rfl) (v := Value.int .i64 (q : Nat)) (fun wr hwr => by simp only [execOp, (F9.eval 4 (by omega)).trans (show _ = Value.int .i64 (q : Nat) from by simp [upd, ee3, ee0, ee4])]; first | rfl | simp [go_sem]) fun F10 => ?_
      refine lyp F10 rfl HCC rfl (by omega) (wanted_none rfl) (v := Value.pointer (some ⟨g, q * 5, none⟩)) (fun wr hwr => by simp only [execOp, (F10.eval 24 (by omega)).trans (show _ = Value.slice (some ⟨g, 0, none⟩) N rc from by simp [upd, ee3, ee0, ee4]), (F10.eval 25 (by omega)).trans (show _ = Value.int .i64 (q : Nat) from by simp [upd, ee3, ee0, ee4])]; simp only [Sem.run_bind, Sem.run_pure, Result.andThen_ok, idx_run 88 94 5 Try.underlying88 (by kernel_rfl) wr g 0 N rc q (by omega), Nat.zero_add]; try rfl) fun F11 => ?_
      refine lyp F11 rfl HCC rfl (by omega) (wanted_none rfl) (v := Value.agg #[.string ⟨c.nm.toArray⟩, .int .i64 c.cap, .int .i64 c.val, c.hv, c.uv]) (fun wr hwr => by simp only [execOp, (F11.eval 26 (by omega)).trans (show _ = Value.pointer (some ⟨g, q * 5, none⟩) from by simp [upd, ee3, ee0, ee4])]; simp [go_sem, hwr.2.2.1, hwr.2.2.2.1, hwr.2.2.2.2.1, hwr.2.2.2.2.2.1, hwr.2.2.2.2.2.2]) fun F12 => ?_
      refine lep F12 rfl HCC rfl (by omega) (wanted_none rfl) (v := Value.slice (some ⟨wr.heap.size, 0, none⟩) 1 1) (w1 := (({ wr with drawn := wr.drawn + 1 } : World)).alloc (.cells #[.string ⟨c.nm.toArray⟩, .int .i64 c.cap, .int .i64 c.val, c.hv, c.uv] 94)) (by simp only [execOp, List.map_toArray, List.map_cons, List.map_nil, (F12.eval 27 (by omega)).trans (show _ = Value.agg #[.string ⟨c.nm.toArray⟩, .int .i64 c.cap, .int .i64 c.val, c.hv, c.uv] from by simp [upd, ee3, ee0, ee4])]; simp [go_sem]) fun F13 => ?_
      have HC5 : (fun wq => Blk wq tb #[.slice to q tc] 90 ∧ Blk wq rb #[.slice (some ⟨g, 0, none⟩) N rc] 90 ∧ wq.cell? ⟨g, q * 5, none⟩ = some (.string ⟨c.nm.toArray⟩) ∧ wq.cell? ⟨g, q * 5 + 1, none⟩ = some (.int .i64 c.cap) ∧ wq.cell? ⟨g, q * 5 + 2, none⟩ = some (.int .i64 c.val) ∧ wq.cell? ⟨g, q * 5 + 3, none⟩ = some c.hv ∧ wq.cell? ⟨g, q * 5 + 4, none⟩ = some c.uv) w5 := HC5F.out
      refine lep F13 rfl HC1 rfl (by omega) (wanted_none rfl) (v := Value.slice t5 (q + 1) c5) (w1 := w5) (by simp only [execOp, resolve, invoke, builtin, List.map_toArray, List.map_cons, List.map_nil, (F13.eval 20 (by omega)).trans (show _ = Value.slice to q tc from by simp [upd, ee3, ee0, ee4]), (F13.eval 28 (by omega)).trans (show _ = Value.slice (some ⟨wr.heap.size, 0, none⟩) 1 1 from by simp [upd, ee3, ee0, ee4])]; simp only [Sem.run_bind, Sem.run_pure, Result.andThen_ok, show _ = _ from HRN.out _]; try rfl) fun F14 => ?_
      refine lyp F14 rfl HC5 rfl (by omega) (wanted_none rfl) (v := Value.pointer (some ⟨tb, 0, none⟩)) (fun wr hwr => by simp only [execOp, (F14.eval 16 (by omega)).trans (show _ = Value.pointer (some ⟨tb, 0, none⟩) from by simp [upd, ee3, ee0, ee4])]; simp [go_sem]) fun F15 => ?_
      refine lyp F15 rfl HC5 rfl (by omega) (wanted_none rfl) (v := Value.pointer (some ⟨tb, 0, none⟩)) (fun wr hwr => by simp only [execOp, (F15.eval 30 (by omega)).trans (show _ = Value.pointer (some ⟨tb, 0, none⟩) from by simp [upd, ee3, ee0, ee4])]; simp [go_sem]) fun F16 => ?_
      refine lst rfl HC5 rfl (wanted_none rfl) (w1 := w5.setCell ⟨tb, 0, none⟩ (.slice t5 (q + 1) c5)) (by simp only [execOp, (F16.eval 31 (by omega)).trans (show _ = Value.pointer (some ⟨tb, 0, none⟩) from by simp [upd, ee3, ee0, ee4]), (F16.eval 29 (by omega)).trans (show _ = Value.slice t5 (q + 1) c5 from by simp [upd, ee3, ee0, ee4])]; simp [go_sem, show w5.cell? ⟨tb, 0, none⟩ = some (.slice to q tc) from HC5.1.cell 0, show w5.frozen? ⟨tb, 0, none⟩ = false from HC5.1.frozen 0]) ?_
      refine ⟨(fun h => absurd h (by decide)), ?_⟩
      first | refine hKK _ _ ?_ | skip
      clear F0 F1 F2 F3 F4 F5 F6 F7 F8 F9 F10 F11 F12 F13 F14 F15 F16 ee3 ee0 ee4 HCC HC1 HC5
      simp only [Act.put, List.setIfInBounds_toArray, List.set_cons_succ, List.set_cons_zero]
      go_wp2_with fail
      go_roundw
      case rel => exact ⟨q + 1, _, by omega, by go_num, HNX.out, HBN.out⟩
      case measure => simp [intOf]; omega
    · have hq : M.take q = M := List.take_of_length_le (by rw [← HN.out]; omega)
      have HF : Hid (RMap w.heap.size tb v' M wr) := show RMap w.heap.size tb v' M wr from by have h1 := HT.out; rw [hq] at h1; exact h1
      clear hq
      go_wp2_with fail
      go_ret
      exact ⟨tb, v', rfl, HF.out, HTL.out, HBW.out⟩
end Go.Proofs.Ytaiknlnjahjeiaa
