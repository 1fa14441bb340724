import Derived.Test.YtaiknlnjahjeiaaJoinG
import Derived.Deep.Cut
namespace Go.Proofs.Ytaiknlnjahjeiaa
open Go.RowKit Go.PlainAid Go.MapKept
set_option linter.unusedVariables false
set_option linter.unusedSimpArgs false
def gtB (p n : List UInt8) : Bool := !(Op.bytesLess p n || p == n)
/-- Put where it belongs. -/
def insR (c : RC) : List RC → List RC
  | [] => [c]
  | x :: t => if gtB x.nm c.nm then c :: x :: t else x :: insR c t
def restR (b : Bool) (c : RC) (T : List RC) : List RC := bif b then T else insR c T
theorem insR_len (c : RC) : ∀ M : List RC, (insR c M).length = M.length + 1
  | [] => rfl
  | x :: t => by
    unfold insR
    split
    · rfl
    · rw [List.length_cons, insR_len c t]; rfl
theorem insR_mem {c x : RC} : ∀ {M : List RC}, x ∈ insR c M ↔ x = c ∨ x ∈ M
  | [] => by simp [insR]
  | y :: t => by
    unfold insR
    split
    · simp
    · rw [List.mem_cons, insR_mem (M := t), List.mem_cons]
      constructor
      · rintro (h | h | h) <;> simp [h]
      · rintro (h | h | h) <;> simp [h]
/-- A call of the document's map. -/
structure RDone (B rb : Nat) (v : Value) (w : World) (M' : List RC) (w' : World) : Prop where
  map : ∃ v', RMap B rb v' M' w' ∧ ∀ k, v'.ownBlock = some k → v.ownBlock = some k ∨ w.heap.size ≤ k
  chg : Chg (fun k => k = rb ∨ v.ownBlock = some k) w w'
theorem RDone.ofBelow {B rb : Nat} {v : Value} {M : List RC} {w w' : World} (h : RMap B rb v M w) (hb : Below w.heap.size w w') : RDone B rb v w M w' := ⟨⟨v, h.more hb, fun k hk => Or.inl hk⟩, Chg.ofBelow _ hb⟩
theorem RC.Rd.chg {B B2 rb : Nat} {v : Value} {M : List RC} {c : RC} {w w' : World} (h : c.Rd B w) (hM : RMap B2 rb v M w) (hc : Chg (fun k => k = rb ∨ v.ownBlock = some k) w w') : c.Rd B w' := by
  have key : ∀ k C T, Blk w k C T → T ≠ 90 → T ≠ 94 → w'.heap[k]? = w.heap[k]? := fun k C T hB h1 h2 => hc.block k hB.lt (fun e => by
    rcases e with e | e
    · exact Blk.ne_t hB hM.box h1 e
    · obtain ⟨cu, hcu⟩ := ownsRow_type hM.row e
      exact Blk.ne_t hB (show Blk w k cu 94 from hcu) h2 rfl)
  refine ⟨ownsRow_same h.h (fun g hg => ?_), ownsRow_same h.u (fun g hg => ?_)⟩
  · obtain ⟨cu, hcu⟩ := ownsRow_type h.h hg
    exact key g cu 125 hcu (by decide) (by decide)
  · obtain ⟨cu, hcu⟩ := ownsRow_type h.u hg
    exact key g cu 3 hcu (by decide) (by decide)
set_option maxRecDepth 100000 in
set_option maxHeartbeats 3200000 in
theorem rcreate_no {B K rb : Nat} {v : Value} {M : List RC} {c : RC} (k A B' : Int) (n : List UInt8) (w : World) (h : RMap B rb v M w) (hA : RAll B K M w) (hK : K ≤ 100000) (hl : rlook n M = some c) :
    Calls Try.prog 58 #[.pointer (some ⟨rb, 0, none⟩), .agg #[.int .i64 k, .string ⟨n.toArray⟩, .int .i64 A, .int .i64 B']] w fun e w' => e = .returned (.tuple #[.int .i64 0, .int .i64 101]) ∧ Below w.heap.size w w' := by
  obtain ⟨q, h1, h2, h3⟩ := rlook_at hl
  obtain ⟨ob, hob⟩ : ∃ b, b = w.heap.size := ⟨_, rfl⟩
  obtain ⟨X, hX⟩ : ∃ X, X = w.alloc (.cells #[.int .i64 k, .string ⟨n.toArray⟩, .int .i64 A, .int .i64 B'] 31) := ⟨_, rfl⟩
  have hbX : Below w.heap.size w X := by rw [hX]; exact (Below.refl _ _).alloc (Nat.le_refl _) _
  have hB : Blk X ob #[.int .i64 k, .string ⟨n.toArray⟩, .int .i64 A, .int .i64 B'] 31 := by rw [hX, hob]; exact heap_alloc_new w _
  have HF : Hid _ := find_yes X (h.more hbX) (Nat.le_trans hA.len hK) h1 h2 h3
  have o1 : X.cell? ⟨ob, 1, none⟩ = some (.string ⟨n.toArray⟩) := hB.cell 1
  have HBX : Hid (Below w.heap.size w X) := hbX
  clear h hA hl h1 h2 h3 hbX hB
  go_enter Try.func58, Try.ntmps58
  go_upto_region 1 with fail
  rw [← hX, ← hob]
  clear hX hob
  go_wp2_with fail
  refine Calls.mono HF.out ?_
  rintro e9 w9 ⟨rfl, hw⟩
  replace hw := hw.symm
  subst hw
  have hq0 : ¬ (q : Int) < 0 := by omega
  go_wp2_with fail
  go_ret2
  exact ⟨rfl, HBX.out⟩
set_option maxRecDepth 100000 in
set_option maxHeartbeats 3200000 in
theorem rcreate_cap {B K rb : Nat} {v : Value} {M : List RC} (k A B' : Int) (n : List UInt8) (w : World) (h : RMap B rb v M w) (hA : RAll B K M w) (hK : K ≤ 100000) (hl : rlook n M = none) (hlt : A < B') :
    Calls Try.prog 58 #[.pointer (some ⟨rb, 0, none⟩), .agg #[.int .i64 k, .string ⟨n.toArray⟩, .int .i64 A, .int .i64 B']] w fun e w' => e = .returned (.tuple #[.int .i64 0, .int .i64 61]) ∧ Below w.heap.size w w' := by
  obtain ⟨ob, hob⟩ : ∃ b, b = w.heap.size := ⟨_, rfl⟩
  obtain ⟨X, hX⟩ : ∃ X, X = w.alloc (.cells #[.int .i64 k, .string ⟨n.toArray⟩, .int .i64 A, .int .i64 B'] 31) := ⟨_, rfl⟩
  have hbX : Below w.heap.size w X := by rw [hX]; exact (Below.refl _ _).alloc (Nat.le_refl _) _
  have hB : Blk X ob #[.int .i64 k, .string ⟨n.toArray⟩, .int .i64 A, .int .i64 B'] 31 := by rw [hX, hob]; exact heap_alloc_new w _
  have HF : Hid _ := find_no X (h.more hbX) (Nat.le_trans hA.len hK) (rlook_none hl)
  have o1 : X.cell? ⟨ob, 1, none⟩ = some (.string ⟨n.toArray⟩) := hB.cell 1
  have o2 : X.cell? ⟨ob, 2, none⟩ = some (.int .i64 A) := hB.cell 2
  have o3 : X.cell? ⟨ob, 3, none⟩ = some (.int .i64 B') := hB.cell 3
  have HBX : Hid (Below w.heap.size w X) := hbX
  clear h hA hl hbX hB
  go_enter Try.func58, Try.ntmps58
  go_upto_region 1 with fail
  rw [← hX, ← hob]
  clear hX hob
  go_wp2_with fail
  refine Calls.mono HF.out ?_
  rintro e9 w9 ⟨rfl, hw⟩
  replace hw := hw.symm
  subst hw
  go_wp2_with fail
  go_ret2
  exact ⟨rfl, HBX.out⟩
def newRC (n : List UInt8) (A B : Int) : RC := ⟨n, A, B, .slice none 0 0, [], .slice none 0 0, []⟩
end Go.Proofs.Ytaiknlnjahjeiaa
