import Derived.Test.YtnphkmdanicemaaGreatDoorVGm2
import Derived.Test.YtnphkmdanicemaaGreatDoorJP
import Derived.Test.YtnphkmdanicemaaGreatDoorJC
namespace Go.Proofs.YtnphkmdanicemaaGreatDoor
open Go.RowKit Go.PlainAid Go.MapKept
set_option linter.unusedVariables false
set_option linter.unusedSimpArgs false
def Str (n : List UInt8) : Value := .string ⟨n.toArray⟩
abbrev Rg := Int × Int
def rgV (p : Rg) : Value := .agg #[.int .i64 p.1, .int .i64 p.2]
theorem bytesD (b d : List UInt8) : ((⟨b.toArray⟩ : ByteArray) == ⟨d.toArray⟩) = decide (b = d) := by
  have h : ((⟨b.toArray⟩ : ByteArray) == ⟨d.toArray⟩) = (b == d) := by
    show (b.toArray == d.toArray) = (b == d)
    simp
  rw [h]
  by_cases h : b = d <;> simp [h]
theorem checkS (n : Nat) (b : Bool) (k : List UInt8) (w : World) : (Instr.checkKey b (n + 2) 9 (Str k)).run Tryz.prog w = .ok () w := by
  unfold Str
  simp [Instr.checkKey, go_sem, Result.andThen, run_underlying Tryz.underlying9]
theorem str_inj {a b : List UInt8} (h : Str a = Str b) : a = b := by
  unfold Str at h
  simpa using h
theorem findNow_str (k : List UInt8) : ∀ (es : List MapEntry) (L : List (List UInt8 × Rg)) (i : Nat), es.map Gm.kv = L.map (Gm.encP Str rgV) → Instr.findNow .string (Str k) es i = some ((Gm.fnd k L i).map fun p => (p.1, rgV p.2.2))
  | [], [], i, _ => rfl
  | [], _ :: _, i, h => by simp at h
  | _ :: _, [], i, h => by simp at h
  | e :: es, x :: L, i, h => by
    simp only [List.map_cons, List.cons.injEq] at h
    obtain ⟨h1, h2⟩ := h
    have ek : e.key = Str x.1 := congrArg Prod.fst h1
    have ev : e.val = rgV x.2 := congrArg Prod.snd h1
    have ih := findNow_str k es L (i + 1) h2
    by_cases hk : k = x.1
    · simp [Instr.findNow, ek, Str, Instr.sameNow, bytesD, hk, Gm.fnd, ev]
    · simp only [Instr.findNow, ek, Str, Instr.sameNow, bytesD, hk, Gm.fnd, decide_false, if_false]
      exact ih
def MR : Gm.ML (List UInt8) Rg where
  kE := Str
  vE := rgV
  z := (0, 0)
  tm := 70
  tk := 9
  tv := 37
  inj := fun a b h => str_inj h
  under := Tryz.underlying70
  check := fun b k w => checkS 9998 b k w
  stays := fun k w => by
    have h : Instr.sameBits 10000 (Str k) (Str k) = true := by
      unfold Str
      simp [Instr.sameBits, bytesD]
    simp [Instr.keyThatStays, h]
  zero := fun w => by kernel_rfl
  find := fun k w es L h => by
    unfold Instr.findKey
    rw [Sem.run_bind, run_underlying Tryz.underlying9]
    simp only [Result.andThen]
    rw [findNow_str k es L 0 h]
    rfl
abbrev GL := List (List UInt8 × Rg)
/-- What is lacking of a name. -/
def lk (n : List UInt8) (L : GL) : Rg := (Gm.look n L).getD (0, 0)
/-- A gossip in memory. -/
structure Gs (gb mb : Nat) (me n : Int) (L : GL) (w : World) : Prop where
  blk : Blk w gb #[.int .i64 me, .int .i64 n, .map (some mb)] 72
  map : Gm.HMap MR w mb L
section
variable {gb mb : Nat} {me n : Int} {L L' : GL} {w w' : World}
theorem Gs.more (h : Gs gb mb me n L w) (hb : Below w.heap.size w w') : Gs gb mb me n L w' := ⟨h.blk.below hb h.blk.lt, h.map.same (hb.block _ h.map.lt)⟩
theorem Gs.keep (h : Gs gb mb me n L w) {A : Nat → Prop} (hc : Chg A w w') (h1 : ¬ A gb) (h2 : ¬ A mb) : Gs gb mb me n L w' := ⟨hc.blk h.blk h1, h.map.same (hc.block mb h.map.lt h2)⟩
theorem Gs.ne (h : Gs gb mb me n L w) : gb ≠ mb := h.map.ne_b h.blk
theorem Gs.set (h : Gs gb mb me n L w) (hc : Chg (fun k => k = mb) w w') (hm : Gm.HMap MR w' mb L') : Gs gb mb me n L' w' := ⟨hc.blk h.blk h.ne, hm⟩
theorem Gs.look (h : Gs gb mb me n L w) (k : List UInt8) : (Instr.lookup 70 (.map (some mb)) (.string ⟨k.toArray⟩) false).run Tryz.prog w = .ok (.agg #[.int .i64 (lk k L).1, .int .i64 (lk k L).2]) w := h.map.look_ok (M := MR) k false
end
set_option maxRecDepth 100000 in
set_option maxHeartbeats 1600000 in
theorem gnew_any (me n : Int) (w : World) (h : newCode me n = 0) :
    Calls Tryz.prog 16 #[.int .i64 me, .int .i64 n] w fun e w' => e = .returned (.tuple #[.pointer (some ⟨w.heap.size + 1, 0, none⟩), .int .i64 0]) ∧ Gs (w.heap.size + 1) w.heap.size me n [] w' ∧ Below w.heap.size w w' ∧ w'.heap.size = w.heap.size + 2 := by
  have h2 : ¬ n < 2 ∧ ¬ 16 < n ∧ ¬ me < 0 ∧ ¬ n ≤ me := by
    unfold newCode at h
    split at h
    · cases h
    · split at h
      · cases h
      · omega
  obtain ⟨a1, a2, a3, a4⟩ := h2
  have hmm := @run_makeMap Tryz.prog
  clear h
  go_enter Tryz.func16, Tryz.ntmps16
  go_wp2_with fail
  go_ret2
  have g1 : Below w.heap.size w (w.alloc (.map #[] 0)) := (Below.refl _ _).alloc (Nat.le_refl _) _
  refine ⟨rfl, ⟨?_, ?_⟩, g1.alloc (by simp) _, by simp⟩
  · have := heap_alloc_new (w.alloc (.map #[] 0)) (.cells #[.int .i64 me, .int .i64 n, .map (some w.heap.size)] 72)
    rw [World.size_alloc] at this
    exact this
  · exact (Gm.HMap.made (M := MR) w).same (((Below.refl _ _).alloc (Nat.le_refl _) _).block _ (by simp))
set_option maxRecDepth 100000 in
set_option maxHeartbeats 1600000 in
theorem gnew_no (me n : Int) (w : World) (h : newCode me n ≠ 0) :
    Calls Tryz.prog 16 #[.int .i64 me, .int .i64 n] w fun e w' => e = .returned (.tuple #[.pointer none, .int .i64 (newCode me n)]) ∧ w' = w := by
  by_cases h1 : n < 2
  · have hc : newCode me n = 1 := by unfold newCode; rw [if_pos (Or.inl h1)]
    rw [hc]
    clear h hc
    go_enter Tryz.func16, Tryz.ntmps16
    go_wp2_with fail
    go_ret2
    exact ⟨rfl, rfl⟩
  by_cases h2 : 16 < n
  · have hc : newCode me n = 1 := by unfold newCode; rw [if_pos (Or.inr h2)]
    rw [hc]
    clear h hc
    go_enter Tryz.func16, Tryz.ntmps16
    go_wp2_with fail
    go_ret2
    exact ⟨rfl, rfl⟩
  by_cases h3 : me < 0
  · have hc : newCode me n = 3 := by unfold newCode; rw [if_neg (by omega), if_pos (Or.inl h3)]
    rw [hc]
    clear h hc
    go_enter Tryz.func16, Tryz.ntmps16
    go_wp2_with fail
    go_ret2
    exact ⟨rfl, rfl⟩
  by_cases h4 : n ≤ me
  · have hc : newCode me n = 3 := by unfold newCode; rw [if_neg (by omega), if_pos (Or.inr h4)]
    rw [hc]
    clear h hc
    go_enter Tryz.func16, Tryz.ntmps16
    go_wp2_with fail
    go_ret2
    exact ⟨rfl, rfl⟩
  · exact absurd (by unfold newCode; rw [if_neg (by omega), if_neg (by omega)]) h
set_option maxRecDepth 100000 in
set_option maxHeartbeats 1600000 in
theorem lacks_any {gb mb : Nat} {me n : Int} {L : GL} (k : List UInt8) (w : World) (h : Gs gb mb me n L w) :
    Calls Tryz.prog 22 #[.pointer (some ⟨gb, 0, none⟩), .string ⟨k.toArray⟩] w fun e w' => e = .returned (.agg #[.int .i64 (lk k L).1, .int .i64 (lk k L).2]) ∧ Below w.heap.size w w' := by
  have hgr : Below w.heap.size w (w.alloc (.cells #[.int .i64 0, .int .i64 0] 37)) := by go_grown
  have hG := h.more hgr
  have c2 : (w.alloc (.cells #[.int .i64 0, .int .i64 0] 37)).cell? ⟨gb, 2, none⟩ = some (.map (some mb)) := hG.blk.cell 2
  have hlk := hG.look k
  generalize (lk k L).1 = d at *
  generalize (lk k L).2 = u at *
  clear hG hgr h
  go_enter Tryz.func22, Tryz.ntmps22
  go_wp2_with fail
  have hB : (w.alloc (.cells #[.int .i64 d, .int .i64 u] 37)).heap[w.heap.size]? = some (.cells #[.int .i64 d, .int .i64 u] 37 (0, 0)) := heap_alloc_new w _
  exact bodyPost_ret (results_cell_row Tryz.results22 _ _ (w.heap.size) 37 _ (0, 0) _ rfl hB Tryz.underlying37 rfl (by kernel_rfl)) rfl ⟨rfl, by go_grown⟩
def okC (k : Int) : Bool := decide (0 ≤ k) && decide (k ≤ 1099511627776)
set_option maxRecDepth 100000 in
theorem isCount_any (k : Int) (w : World) : Calls Tryz.prog 20 #[.int .i64 k] w fun r w' => r = .returned (.bool (okC k)) ∧ w' = w := by
  by_cases h1 : 0 ≤ k
  · by_cases h2 : k ≤ 1099511627776
    · rw [show okC k = true from by simp [okC, h1, h2]]
      go_enter Tryz.func20, Tryz.ntmps20
      go_wp2_with fail
      go_ret
      exact ⟨rfl, rfl⟩
    · rw [show okC k = false from by simp [okC, h2]]
      go_enter Tryz.func20, Tryz.ntmps20
      go_wp2_with fail
      go_ret
      exact ⟨rfl, rfl⟩
  · rw [show okC k = false from by simp [okC, h1]]
    go_enter Tryz.func20, Tryz.ntmps20
    go_wp2_with fail
    go_ret
    exact ⟨rfl, rfl⟩
set_option maxRecDepth 100000 in
theorem downs_any (d u : Int) (w : World) : Calls Tryz.prog 64 #[.agg #[.int .i64 d, .int .i64 u]] w fun r w' => r = .returned (.int .i64 d) ∧ Below w.heap.size w w' := by
  go_enter Tryz.func64, Tryz.ntmps64
  go_wp2_with fail
  go_ret
  exact ⟨rfl, by go_grown⟩
set_option maxRecDepth 100000 in
theorem ups_any (d u : Int) (w : World) : Calls Tryz.prog 65 #[.agg #[.int .i64 d, .int .i64 u]] w fun r w' => r = .returned (.int .i64 u) ∧ Below w.heap.size w w' := by
  go_enter Tryz.func65, Tryz.ntmps65
  go_wp2_with fail
  go_ret
  exact ⟨rfl, by go_grown⟩
def byd (a b : Int) : Int := max 0 (a - b)
set_option maxRecDepth 100000 in
set_option maxHeartbeats 1600000 in
theorem beyond_any (a b c d : Int) (w : World) (h1 : IntKind.i64.wrap (a - c) = a - c) (h2 : IntKind.i64.wrap (b - d) = b - d) :
    Calls Tryz.prog 39 #[.agg #[.int .i64 a, .int .i64 b], .agg #[.int .i64 c, .int .i64 d]] w fun r w' => r = .returned (.agg #[.int .i64 (byd a c), .int .i64 (byd b d)]) ∧ Below w.heap.size w w' := by
  go_enter Tryz.func39, Tryz.ntmps39
  go_wp2_with fail
  have hB := heap_alloc_new ((w.alloc (.cells #[.int .i64 a, .int .i64 b] 37)).alloc (.cells #[.int .i64 c, .int .i64 d] 37)) (.cells #[.int .i64 (max 0 (a - c)), .int .i64 (max 0 (b - d))] 37)
  rw [World.size_alloc, World.size_alloc] at hB
  exact bodyPost_ret (results_cell_row Tryz.results39 _ _ _ 37 _ (0, 0) _ rfl hB Tryz.underlying37 rfl (by kernel_rfl)) rfl ⟨rfl, by go_grown⟩
end Go.Proofs.YtnphkmdanicemaaGreatDoor
