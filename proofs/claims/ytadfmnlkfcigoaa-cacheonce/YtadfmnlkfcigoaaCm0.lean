import Derived.Test.YtadfmnlkfcigoaaGm
import Derived.Test.YtadfmnlkfcigoaaMix2
import Derived.Test.YtadfmnlkfcigoaaPlan
import Derived.Test.YtadfmnlkfcigoaaTh
namespace Go.Proofs.Ytadfmnlkfcigoaa
open Go.RowKit Go.PlainAid Go.MapKept
set_option linter.unusedVariables false
set_option linter.unusedSimpArgs false
def callV (c : Int × Int) : Value := .agg #[.int .i64 c.1, .int .i64 c.2]
theorem call_inj {x y : Int × Int} (h : callV x = callV y) : x = y := by
  obtain ⟨a, b⟩ := x
  obtain ⟨c, d⟩ := y
  unfold callV at h
  simpa using h
set_option maxHeartbeats 2000000 in
theorem eqc_in32 (n : Nat) (a b c d : Int) (w : World) : (Go.Op.equalIn (n + 2) 32 (callV (a, b)) (callV (c, d))).run Try.prog w = .ok (a == c && b == d) w := by
  have h0 : Try.prog.stoodInHeld 32 = false := by kernel_rfl
  have e1 : (Go.Op.equalIn (n + 1) 3 (.int .i64 a) (.int .i64 c)).run Try.prog w = .ok (a == c) w := by kernel_rfl
  have e2 : (Go.Op.equalIn (n + 1) 3 (.int .i64 b) (.int .i64 d)).run Try.prog w = .ok (b == d) w := by kernel_rfl
  unfold callV
  unfold Go.Op.equalIn
  cases hx : (a == c) <;> cases hy : (b == d) <;> rw [hx] at e1 <;> rw [hy] at e2 <;> simp [go_sem, h0, Result.andThen, e1, e2, run_underlying Try.underlying32]
theorem eq_call32 (x y : Int × Int) (w : World) : (Go.Op.equal 32 (callV x) (callV y)).run Try.prog w = .ok (decide (x = y)) w := by
  obtain ⟨a, b⟩ := x
  obtain ⟨c, d⟩ := y
  rw [show decide ((a, b) = (c, d)) = (a == c && b == d) from by
    by_cases h1 : a = c <;> by_cases h2 : b = d <;> simp [h1, h2]]
  exact eqc_in32 9998 a b c d w
theorem findAsk32 {V : Type} (vE : V → Value) (k : Int × Int) (w : World) : ∀ (es : List MapEntry) (L : List ((Int × Int) × V)) (i : Nat), es.map kv = L.map (encP callV vE) → (Instr.findAsking 32 (callV k) es i).run Try.prog w = .ok ((fnd k L i).map fun p => (p.1, vE p.2.2)) w
  | [], [], i, _ => rfl
  | [], _ :: _, i, h => by simp at h
  | _ :: _, [], i, h => by simp at h
  | e :: es, x :: L, i, h => by
    simp only [List.map_cons, List.cons.injEq] at h
    obtain ⟨h1, h2⟩ := h
    have ek : e.key = callV x.1 := congrArg Prod.fst h1
    have ev : e.val = vE x.2 := congrArg Prod.snd h1
    unfold Instr.findAsking
    rw [Sem.run_bind, ek, eq_call32]
    by_cases hk : k = x.1
    · simp [fnd, hk, ev, Result.andThen]
    · have := findAsk32 vE k w es L (i + 1) h2
      simp [fnd, hk, Result.andThen]
      exact this
theorem checkC32 (n : Nat) (b : Bool) (k : Int × Int) (w : World) : (Instr.checkKey b (n + 2) 32 (callV k)).run Try.prog w = .ok () w := by
  unfold callV
  simp [Instr.checkKey, go_sem, Result.andThen, run_underlying Try.underlying32, run_underlying Try.underlying3]
set_option maxHeartbeats 2000000 in
theorem eqc_in69 (n : Nat) (a b c d : Int) (w : World) : (Go.Op.equalIn (n + 2) 69 (callV (a, b)) (callV (c, d))).run Try.prog w = .ok (a == c && b == d) w := by
  have h0 : Try.prog.stoodInHeld 69 = false := by kernel_rfl
  have e1 : (Go.Op.equalIn (n + 1) 3 (.int .i64 a) (.int .i64 c)).run Try.prog w = .ok (a == c) w := by kernel_rfl
  have e2 : (Go.Op.equalIn (n + 1) 3 (.int .i64 b) (.int .i64 d)).run Try.prog w = .ok (b == d) w := by kernel_rfl
  unfold callV
  unfold Go.Op.equalIn
  cases hx : (a == c) <;> cases hy : (b == d) <;> rw [hx] at e1 <;> rw [hy] at e2 <;> simp [go_sem, h0, Result.andThen, e1, e2, run_underlying Try.underlying69]
theorem eq_call69 (x y : Int × Int) (w : World) : (Go.Op.equal 69 (callV x) (callV y)).run Try.prog w = .ok (decide (x = y)) w := by
  obtain ⟨a, b⟩ := x
  obtain ⟨c, d⟩ := y
  rw [show decide ((a, b) = (c, d)) = (a == c && b == d) from by
    by_cases h1 : a = c <;> by_cases h2 : b = d <;> simp [h1, h2]]
  exact eqc_in69 9998 a b c d w
theorem findAsk69 {V : Type} (vE : V → Value) (k : Int × Int) (w : World) : ∀ (es : List MapEntry) (L : List ((Int × Int) × V)) (i : Nat), es.map kv = L.map (encP callV vE) → (Instr.findAsking 69 (callV k) es i).run Try.prog w = .ok ((fnd k L i).map fun p => (p.1, vE p.2.2)) w
  | [], [], i, _ => rfl
  | [], _ :: _, i, h => by simp at h
  | _ :: _, [], i, h => by simp at h
  | e :: es, x :: L, i, h => by
    simp only [List.map_cons, List.cons.injEq] at h
    obtain ⟨h1, h2⟩ := h
    have ek : e.key = callV x.1 := congrArg Prod.fst h1
    have ev : e.val = vE x.2 := congrArg Prod.snd h1
    unfold Instr.findAsking
    rw [Sem.run_bind, ek, eq_call69]
    by_cases hk : k = x.1
    · simp [fnd, hk, ev, Result.andThen]
    · have := findAsk69 vE k w es L (i + 1) h2
      simp [fnd, hk, Result.andThen]
      exact this
theorem checkC69 (n : Nat) (b : Bool) (k : Int × Int) (w : World) : (Instr.checkKey b (n + 2) 69 (callV k)).run Try.prog w = .ok () w := by
  unfold callV
  simp [Instr.checkKey, go_sem, Result.andThen, run_underlying Try.underlying69, run_underlying Try.underlying3]
def ptrV (b : Option Nat) : Value := .pointer (b.map fun g => ⟨g, 0, none⟩)
def MS : ML (Int × Int) (Option Nat) where
  kE := callV
  vE := ptrV
  z := none
  tm := 58
  tk := 69
  tv := 62
  inj := fun a b h => call_inj h
  under := Try.underlying58
  check := fun b k w => checkC69 9998 b k w
  stays := fun k w => by
    have h : Instr.sameBits 10000 (callV k) (callV k) = true := by
      unfold callV
      show (_ && _) = true
      simp [Instr.sameBits]
    simp [Instr.keyThatStays, h]
  zero := fun w => by kernel_rfl
  find := fun k w es L h => by
    unfold Instr.findKey
    rw [Sem.run_bind, run_underlying Try.underlying69]
    simp only [Result.andThen]
    match es, L, h with
    | [], [], _ => rfl
    | [], _ :: _, h => simp at h
    | _ :: _, [], h => simp at h
    | e :: es, x :: L, h =>
      have := findAsk69 (ptrV) k w (e :: es) (x :: L) 0 h
      simp only [List.map_cons, List.cons.injEq] at h
      have ek : e.key = callV x.1 := congrArg Prod.fst h.1
      have e0 : ∀ d, Instr.sameNow (.struct d) (callV k) (callV x.1) = none := fun d => rfl
      simp only [Instr.findNow, ek, e0]
      exact this
def MP : ML (Int × Int) (Unit) where
  kE := callV
  vE := fun _ => .agg #[]
  z := ()
  tm := 59
  tk := 32
  tv := 74
  inj := fun a b h => call_inj h
  under := Try.underlying59
  check := fun b k w => checkC32 9998 b k w
  stays := fun k w => by
    have h : Instr.sameBits 10000 (callV k) (callV k) = true := by
      unfold callV
      show (_ && _) = true
      simp [Instr.sameBits]
    simp [Instr.keyThatStays, h]
  zero := fun w => by kernel_rfl
  find := fun k w es L h => by
    unfold Instr.findKey
    rw [Sem.run_bind, run_underlying Try.underlying32]
    simp only [Result.andThen]
    match es, L, h with
    | [], [], _ => rfl
    | [], _ :: _, h => simp at h
    | _ :: _, [], h => simp at h
    | e :: es, x :: L, h =>
      have := findAsk32 (fun _ => .agg #[]) k w (e :: es) (x :: L) 0 h
      simp only [List.map_cons, List.cons.injEq] at h
      have ek : e.key = callV x.1 := congrArg Prod.fst h.1
      have e0 : ∀ d, Instr.sameNow (.struct d) (callV k) (callV x.1) = none := fun d => rfl
      simp only [Instr.findNow, ek, e0]
      exact this
/-- The sessions' seats, from the row k on. -/
def seats (me : Int) : Nat → List Nat → List ((Int × Int) × Option Nat)
  | _, [] => []
  | k, h :: t => ((me, (k : Int)), some h) :: seats me (k + 1) t
theorem seats_app (me : Int) : ∀ (k : Nat) (l : List Nat) (b : Nat), seats me k (l ++ [b]) = seats me k l ++ [((me, ((k + l.length : Nat) : Int)), some b)]
  | k, [], b => by simp [seats]
  | k, h :: t, b => by
    simp only [List.cons_append, seats, seats_app me (k + 1) t b]
    simp only [List.length_cons]
    rw [show k + 1 + t.length = k + (t.length + 1) by omega]
theorem seats_none {me : Int} {r q : Int} : ∀ (k : Nat) (l : List Nat), (∀ j : Nat, j < l.length → ¬ (r = me ∧ q = ((k + j : Nat) : Int))) → look (r, q) (seats me k l) = none
  | k, [], _ => rfl
  | k, h :: t, hn => by
    have h0 := hn 0 (by simp)
    have hh : ¬ ((r, q) = (me, (k : Int))) := fun e => by
      rw [Prod.mk.injEq] at e
      exact h0 ⟨e.1, by simpa using e.2⟩
    have ih := seats_none (k + 1) t (fun j hj e => hn (j + 1) (by simp; omega) ⟨e.1, e.2.trans (by congr 1; omega)⟩)
    unfold look at ih ⊢
    simp only [seats, List.find?_cons, hh, decide_false]
    exact ih
theorem seats_some {me : Int} : ∀ (k : Nat) (l : List Nat) (j : Nat) (b : Nat), l[j]? = some b → look (me, ((k + j : Nat) : Int)) (seats me k l) = some (some b)
  | k, [], j, b, h => by simp at h
  | k, h :: t, 0, b, hb => by
    simp at hb
    subst hb
    simp [look, seats]
  | k, h :: t, j + 1, b, hb => by
    have ih := seats_some (me := me) (k + 1) t j b (by simpa using hb)
    have hh : ¬ ((me, ((k + (j + 1) : Nat) : Int)) = (me, (k : Int))) := fun e => by
      rw [Prod.mk.injEq] at e
      have := e.2
      omega
    unfold look at ih ⊢
    simp only [seats, List.find?_cons, hh, decide_false]
    rw [show k + (j + 1) = k + 1 + j by omega]
    exact ih
/-- A session that belongs to the replica. -/
def mine (me rep ses s : Int) : Prop := 0 ≤ s ∧ s < ses ∧ Int.tmod s rep = me
instance (me rep ses s : Int) : Decidable (mine me rep ses s) := by unfold mine; infer_instance
/-- The number of rows. -/
def Rows (me rep ses : Int) (n : Nat) : Prop := ∀ j : Nat, j < n ↔ me + j * rep < ses
theorem mine_row {me rep ses s : Int} {n : Nat} (hr : 0 < rep) (hn : Rows me rep ses n) (h : mine me rep ses s) : ∃ j : Nat, j < n ∧ s = me + j * rep ∧ Int.tdiv s rep = j := by
  obtain ⟨h1, h2, h3⟩ := h
  have e := Int.tmod_add_mul_tdiv s rep
  have hq : 0 ≤ Int.tdiv s rep := Int.tdiv_nonneg h1 (by omega)
  refine ⟨(Int.tdiv s rep).toNat, ?_, ?_, by omega⟩
  · rw [hn]
    rw [Int.toNat_of_nonneg hq, Int.mul_comm]
    omega
  · rw [Int.toNat_of_nonneg hq, Int.mul_comm]
    omega
theorem row_mine {me rep ses : Int} {n : Nat} (hr : 0 < rep) (hme : 0 ≤ me) (hmr : me < rep) (hn : Rows me rep ses n) {j : Nat} (hj : j < n) : mine me rep ses (me + j * rep) := by
  have h0 : 0 ≤ (j : Int) * rep := Int.mul_nonneg (by omega) (by omega)
  refine ⟨by omega, (hn j).1 hj, ?_⟩
  rw [Int.tmod_eq_emod_of_nonneg (by omega), Int.add_mul_emod_self_right, Int.emod_eq_of_lt hme hmr]
theorem not_mine {me rep ses s : Int} {n : Nat} (hr : 0 < rep) (hme : 0 ≤ me) (hmr : me < rep) (hn : Rows me rep ses n) (h : ¬ mine me rep ses s) : ∀ j : Nat, j < n → ¬ (Int.tmod s rep = me ∧ Int.tdiv s rep = ((0 + j : Nat) : Int)) := by
  intro j hj ⟨e1, e2⟩
  refine h ?_
  have e := Int.tmod_add_mul_tdiv s rep
  rw [e1, e2] at e
  have := row_mine hr hme hmr hn hj
  rw [← e]
  have e3 : me + rep * ((0 + j : Nat) : Int) = me + j * rep := by rw [Int.mul_comm]; simp
  rw [e3]
  exact this
def rpv (r : Rp) : List Value := [.int .i64 r.s, .int .i64 r.i, .int .i64 r.e, .int .i64 r.v]
/-- The cells of a history. -/
structure HC (C : Array Value) (la : Int) (sl : Nat → Rp) (m f n : Nat) : Prop where
  size : C.size = 68
  c0 : C[0]? = some (.int .i64 la)
  cs : ∀ k t u, k < 16 → (rpv (sl k))[t]? = some u → C[1 + 4 * k + t]? = some u
  c65 : C[65]? = some (.int .i64 m)
  c66 : C[66]? = some (.int .i64 f)
  c67 : C[67]? = some (.int .i64 n)
theorem HC.set0 {C : Array Value} {la : Int} {sl : Nat → Rp} {m f n : Nat} (h : HC C la sl m f n) (z : Int) : HC (C.setIfInBounds 0 (.int .i64 z)) z sl m f n := by
  have hs := h.size
  refine ⟨by simp [hs], by simp [hs], fun k t u hk hu => ?_, ?_, ?_, ?_⟩
  · rw [Array.getElem?_setIfInBounds_ne (by omega)]; exact h.cs k t u hk hu
  · rw [Array.getElem?_setIfInBounds_ne (by omega)]; exact h.c65
  · rw [Array.getElem?_setIfInBounds_ne (by omega)]; exact h.c66
  · rw [Array.getElem?_setIfInBounds_ne (by omega)]; exact h.c67
theorem rpv_lt {r : Rp} {t : Nat} {u : Value} (h : (rpv r)[t]? = some u) : t < 4 := by
  have := (List.getElem?_eq_some_iff.1 h).1
  exact this
theorem HC.set66 {C : Array Value} {la : Int} {sl : Nat → Rp} {m f n : Nat} (h : HC C la sl m f n) (z : Nat) : HC (C.setIfInBounds 66 (.int .i64 z)) la sl m z n := by
  have hs := h.size
  refine ⟨by simp [hs], ?_, fun k t u hk hu => ?_, ?_, by simp [hs], ?_⟩
  · rw [Array.getElem?_setIfInBounds_ne (by omega)]; exact h.c0
  · have := rpv_lt hu
    rw [Array.getElem?_setIfInBounds_ne (by omega)]; exact h.cs k t u hk hu
  · rw [Array.getElem?_setIfInBounds_ne (by omega)]; exact h.c65
  · rw [Array.getElem?_setIfInBounds_ne (by omega)]; exact h.c67
theorem HC.set67 {C : Array Value} {la : Int} {sl : Nat → Rp} {m f n : Nat} (h : HC C la sl m f n) (z : Nat) : HC (C.setIfInBounds 67 (.int .i64 z)) la sl m f z := by
  have hs := h.size
  refine ⟨by simp [hs], ?_, fun k t u hk hu => ?_, ?_, ?_, by simp [hs]⟩
  · rw [Array.getElem?_setIfInBounds_ne (by omega)]; exact h.c0
  · have := rpv_lt hu
    rw [Array.getElem?_setIfInBounds_ne (by omega)]; exact h.cs k t u hk hu
  · rw [Array.getElem?_setIfInBounds_ne (by omega)]; exact h.c65
  · rw [Array.getElem?_setIfInBounds_ne (by omega)]; exact h.c66
def updS (sl : Nat → Rp) (k : Nat) (r : Rp) : Nat → Rp := fun j => if j = k then r else sl j
theorem set4_get (C : Array Value) (o : Nat) (a b c d : Value) (j : Nat) (h : o + 4 ≤ C.size) : ((((C.setIfInBounds o a).setIfInBounds (o + 1) b).setIfInBounds (o + 2) c).setIfInBounds (o + 3) d)[j]? = if j = o then some a else if j = o + 1 then some b else if j = o + 2 then some c else if j = o + 3 then some d else C[j]? := by
  simp only [Array.getElem?_setIfInBounds, Array.size_setIfInBounds]
  by_cases h1 : j = o
  · subst h1; simp; omega
  · by_cases h2 : j = o + 1
    · subst h2; simp; omega
    · by_cases h3 : j = o + 2
      · subst h3; simp; omega
      · by_cases h4 : j = o + 3
        · subst h4; simp; omega
        · have e1 : ¬ o = j := fun e => h1 e.symm
          have e2 : ¬ o + 1 = j := fun e => h2 e.symm
          have e3 : ¬ o + 2 = j := fun e => h3 e.symm
          have e4 : ¬ o + 3 = j := fun e => h4 e.symm
          simp [e1, e2, e3, e4, h1, h2, h3, h4]
theorem HC.setS {C : Array Value} {la : Int} {sl : Nat → Rp} {m f n : Nat} (h : HC C la sl m f n) (k : Nat) (hk : k < 16) (r : Rp) :
    HC ((((C.setIfInBounds (1 + 4 * k) (.int .i64 r.s)).setIfInBounds (1 + 4 * k + 1) (.int .i64 r.i)).setIfInBounds (1 + 4 * k + 2) (.int .i64 r.e)).setIfInBounds (1 + 4 * k + 3) (.int .i64 r.v)) la (updS sl k r) m f n := by
  have hs := h.size
  refine ⟨by simp [hs], ?_, fun j t u hj hu => ?_, ?_, ?_, ?_⟩
  · rw [set4_get _ _ _ _ _ _ _ (by omega), if_neg (by omega), if_neg (by omega), if_neg (by omega), if_neg (by omega)]; exact h.c0
  · have ht := rpv_lt hu
    rw [set4_get _ _ _ _ _ _ _ (by omega)]
    by_cases e : j = k
    · subst e
      have er : updS sl j r j = r := by simp [updS]
      rw [er] at hu
      rcases (show t = 0 ∨ t = 1 ∨ t = 2 ∨ t = 3 by omega) with rfl | rfl | rfl | rfl
      · rw [if_pos (by omega)]; exact hu
      · rw [if_neg (by omega), if_pos (by omega)]; exact hu
      · rw [if_neg (by omega), if_neg (by omega), if_pos (by omega)]; exact hu
      · rw [if_neg (by omega), if_neg (by omega), if_neg (by omega), if_pos (by omega)]; exact hu
    · have er : updS sl k r j = sl j := by simp [updS, e]
      rw [er] at hu
      rw [if_neg (by omega), if_neg (by omega), if_neg (by omega), if_neg (by omega)]
      exact h.cs j t u hj hu
  · rw [set4_get _ _ _ _ _ _ _ (by omega), if_neg (by omega), if_neg (by omega), if_neg (by omega), if_neg (by omega)]; exact h.c65
  · rw [set4_get _ _ _ _ _ _ _ (by omega), if_neg (by omega), if_neg (by omega), if_neg (by omega), if_neg (by omega)]; exact h.c66
  · rw [set4_get _ _ _ _ _ _ _ (by omega), if_neg (by omega), if_neg (by omega), if_neg (by omega), if_neg (by omega)]; exact h.c67
/-- A history in memory: its last id, the replies that it keeps. -/
def Hist (w : World) (hb m : Nat) (la : Int) (R : List Rp) : Prop := ∃ C sl f, Blk w hb C 67 ∧ HC C la sl m f R.length ∧ f < m ∧ m ≤ 16 ∧ R.length ≤ m ∧ ∀ i x, R[i]? = some x → sl ((f + i) % m) = x
theorem Hist.blk {w : World} {hb m : Nat} {la : Int} {R : List Rp} (h : Hist w hb m la R) : ∃ C, Blk w hb C 67 := by
  obtain ⟨C, _, _, h, _⟩ := h
  exact ⟨C, h⟩
theorem Hist.lt {w : World} {hb m : Nat} {la : Int} {R : List Rp} (h : Hist w hb m la R) : hb < w.heap.size := by
  obtain ⟨C, h⟩ := h.blk
  exact h.lt
theorem Hist.same {w w' : World} {hb m : Nat} {la : Int} {R : List Rp} (h : Hist w hb m la R) (he : w'.heap[hb]? = w.heap[hb]?) : Hist w' hb m la R := by
  obtain ⟨C, sl, f, hB, r⟩ := h
  exact ⟨C, sl, f, he.trans hB, r⟩
theorem Hist.last {w : World} {hb m : Nat} {la : Int} {R : List Rp} (h : Hist w hb m la R) : w.cell? ⟨hb, 0, none⟩ = some (.int .i64 la) := by
  obtain ⟨C, sl, f, hB, hC, _⟩ := h
  rw [hB.cell 0]
  exact hC.c0
/-- Where a cache lies, and its numbers. -/
structure CA where
  cb : Nat
  ms : Nat
  mp : Nat
  hs : List Nat
  me : Int
  rep : Int
  ses : Int
  room : Nat
/-- What a cache knows: by session the last id and the replies that are kept; what is pending. -/
structure CX where
  la : Int → Int
  rg : Int → List Rp
  op : List (Int × Int)
structure COk (a : CA) : Prop where
  rep : 2 ≤ a.rep ∧ a.rep ≤ 16
  me : 0 ≤ a.me ∧ a.me < a.rep
  ses : 1 ≤ a.ses ∧ a.ses ≤ 64
  room : 1 ≤ a.room ∧ a.room ≤ 16
  rows : Rows a.me a.rep a.ses a.hs.length
  nd : a.hs.Nodup
structure CM (a : CA) (x : CX) (w : World) : Prop where
  ok : COk a
  blk : Blk w a.cb #[.int .i64 a.rep, .map (some a.ms), .map (some a.mp)] 61
  sm : HMap MS w a.ms (seats a.me 0 a.hs)
  pm : HMap MP w a.mp (x.op.map fun c => (c, ()))
  hist : ∀ (j : Nat) b, a.hs[j]? = some b → Hist w b a.room (x.la (a.me + j * a.rep)) (x.rg (a.me + j * a.rep))
  ne : a.ms ≠ a.mp
def CA.own (a : CA) (k : Nat) : Prop := k = a.cb ∨ k = a.ms ∨ k = a.mp ∨ k ∈ a.hs
section
variable {a : CA} {x x' : CX} {w w' : World}
theorem CM.lt (h : CM a x w) {k : Nat} (hk : a.own k) : k < w.heap.size := by
  rcases hk with rfl | rfl | rfl | hk
  · exact h.blk.lt
  · exact h.sm.lt
  · exact h.pm.lt
  · obtain ⟨j, hj, rfl⟩ := List.getElem_of_mem hk
    exact (h.hist j _ (List.getElem?_eq_getElem hj)).lt
theorem CM.keep (h : CM a x w) {A : Nat → Prop} (hc : Chg A w w') (hn : ∀ k, a.own k → ¬ A k) : CM a x w' :=
  ⟨h.ok, hc.blk h.blk (hn _ (Or.inl rfl)), h.sm.same (hc.block _ h.sm.lt (hn _ (Or.inr (Or.inl rfl)))), h.pm.same (hc.block _ h.pm.lt (hn _ (Or.inr (Or.inr (Or.inl rfl))))), fun j b hj => (h.hist j b hj).same (hc.block b (h.hist j b hj).lt (hn b (Or.inr (Or.inr (Or.inr (List.mem_of_getElem? hj)))))), h.ne⟩
theorem CM.more (h : CM a x w) (hb : Below w.heap.size w w') : CM a x w' := h.keep (Chg.ofBelow (fun _ => False) hb) (fun _ _ e => e)
theorem CM.c0 (h : CM a x w) : w.cell? ⟨a.cb, 0, none⟩ = some (.int .i64 a.rep) := h.blk.cell 0
theorem CM.c1 (h : CM a x w) : w.cell? ⟨a.cb, 1, none⟩ = some (.map (some a.ms)) := h.blk.cell 1
theorem CM.c2 (h : CM a x w) : w.cell? ⟨a.cb, 2, none⟩ = some (.map (some a.mp)) := h.blk.cell 2
theorem CM.seatNo (h : CM a x w) {s : Int} (hs : ¬ mine a.me a.rep a.ses s) (b : Bool) : (Instr.lookup 58 (.map (some a.ms)) (callV (Int.tmod s a.rep, Int.tdiv s a.rep)) true).run Try.prog w = .ok (.tuple #[.pointer none, .bool false]) w := by
  have := h.sm.look_ok (Int.tmod s a.rep, Int.tdiv s a.rep) true
  rw [seats_none 0 a.hs (fun j hj => not_mine (by have := h.ok.rep; omega) h.ok.me.1 h.ok.me.2 h.ok.rows hs j hj)] at this
  exact this
theorem CM.seatYes (h : CM a x w) {s : Int} (hs : mine a.me a.rep a.ses s) : ∃ (j : Nat) (b : Nat), a.hs[j]? = some b ∧ s = a.me + j * a.rep ∧ (Instr.lookup 58 (.map (some a.ms)) (callV (Int.tmod s a.rep, Int.tdiv s a.rep)) true).run Try.prog w = .ok (.tuple #[.pointer (some ⟨b, 0, none⟩), .bool true]) w := by
  obtain ⟨j, hj, e1, e2⟩ := mine_row (by have := h.ok.rep; omega) h.ok.rows hs
  have hb : a.hs[j]? = some a.hs[j] := List.getElem?_eq_getElem hj
  have := h.sm.look_ok (Int.tmod s a.rep, Int.tdiv s a.rep) true
  have e3 : (Int.tmod s a.rep, Int.tdiv s a.rep) = (a.me, ((0 + j : Nat) : Int)) := by rw [hs.2.2, e2, Nat.zero_add]
  rw [e3, seats_some 0 a.hs j _ hb, ← e3] at this
  exact ⟨j, _, hb, e1, this⟩
end
end Go.Proofs.Ytadfmnlkfcigoaa
