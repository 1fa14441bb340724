import Derived.Test.YtjpdcahodmomgaaJn24
import Derived.Test.YtjpdcahodmomgaaJn11
import Derived.Deep.LoopGhost
namespace Go.Proofs.Ytjpdcahodmomgaa
open Go.RowKit Go.PlainAid
set_option linter.unusedVariables false
set_option linter.unusedSimpArgs false
/-- The records of a disk, one by one. -/
def itR (b : Nat → UInt8) : Nat → List (List UInt8) × Nat
  | 0 => ([], 0)
  | k + 1 => ((itR b k).1 ++ [recB b (itR b k).2 (lenIn (secL b (itR b k).2))], (itR b k).2 + kS (lenIn (secL b (itR b k).2)))
theorem itR_len (b : Nat → UInt8) : ∀ k, (itR b k).1.length = k
  | 0 => rfl
  | k + 1 => by
    show ((itR b k).1 ++ [_]).length = k + 1
    rw [List.length_append, itR_len b k]; rfl
def Upto (b : Nat → UInt8) (n k : Nat) : Prop := ∀ j, j < k → RecOk b n (itR b j).2 (j + 1)
def Full (b : Nat → UInt8) (n k : Nat) : Prop := Upto b n k ∧ ¬ RecOk b n (itR b k).2 (k + 1)
theorem Full.one {b : Nat → UInt8} {n k k' : Nat} (h : Full b n k) (h' : Full b n k') : k = k' := by
  rcases Nat.lt_trichotomy k k' with h1 | h1 | h1
  · exact absurd (h'.1 k h1) h.2
  · exact h1
  · exact absurd (h.1 k' h1) h'.2
theorem RecOk.fit {b : Nat → UInt8} {n next num : Nat} (h : RecOk b n next num) : next + kS (lenIn (secL b next)) ≤ n ∧ lenIn (secL b next) ≤ 8192 := by
  have h1 := kS_pos (lenIn (secL b next))
  have h2 := (h.2.2 (kS (lenIn (secL b next)) - 1) (by omega)).1
  exact ⟨by omega, h.2.1⟩
theorem Upto.le {b : Nat → UInt8} {n : Nat} : ∀ {k}, Upto b n k → k ≤ (itR b k).2 ∧ (itR b k).2 ≤ n ∧ ∀ bs ∈ (itR b k).1, bs.length ≤ 8192
  | 0, _ => ⟨Nat.le_refl _, Nat.zero_le _, fun bs h => by cases h⟩
  | k + 1, h => by
    have h1 := Upto.le (fun j hj => h j (by omega) : Upto b n k)
    have h2 := (h k (by omega)).fit
    have h3 := kS_pos (lenIn (secL b (itR b k).2))
    refine ⟨?_, h2.1, fun bs hb => ?_⟩
    · show k + 1 ≤ (itR b k).2 + kS (lenIn (secL b (itR b k).2))
      omega
    · rcases List.mem_append.1 hb with h4 | h4
      · exact h1.2.2 bs h4
      · rw [List.mem_singleton.1 h4, recB_len]; exact h2.2
/-- What is at a place that is not right, or all of it. -/
theorem first_bad (P : Nat → Prop) (k : Nat) : ∃ m, m ≤ k ∧ (∀ p, p < m → P p) ∧ (m < k → ¬ P m) := by
  classical
  induction k with
  | zero => exact ⟨0, Nat.le_refl _, fun p hp => by omega, fun h => by omega⟩
  | succ k ih =>
    obtain ⟨m, h1, h2, h3⟩ := ih
    by_cases hm : m < k
    · exact ⟨m, by omega, h2, fun _ => h3 hm⟩
    · obtain rfl : m = k := by omega
      by_cases hp : P m
      · exact ⟨m + 1, Nat.le_refl _, fun p hp' => by
          by_cases e : p = m
          · subst e; exact hp
          · exact h2 p (by omega), fun h => by omega⟩
      · exact ⟨m, by omega, h2, fun _ => hp⟩
section
variable {L jb s : Nat} {y : JV} {x : DV} {R : List (Ent L)}
set_option maxRecDepth 100000
set_option maxHeartbeats 1600000
theorem read_yes_any (w : World) (h : Held (y.es L jb ++ (dmE L y.p s x :: R)) w) (ho : x.off = false) (hxn : x.n ≤ 65536) (hr : y.recs.length ≤ 1000) (hok : RecOk x.b x.n y.next (y.recs.length + 1)) :
    Calls Try.prog 36 #[.pointer (some ⟨jb, 0, none⟩)] w fun e w' => ∃ v', e = .returned (.tuple #[v', .bool true]) ∧ w'.ownsRow w.heap.size 5 1 v' (lenIn (secL x.b y.next)) ((recB x.b y.next (lenIn (secL x.b y.next))).map B) ∧ Below w.heap.size w w' := by
  refine (read_m (m := kS (lenIn (secL x.b y.next))) w h ho hok.1 hxn hr hok.2.1 (Nat.le_refl _) hok.2.2 (fun h => absurd h (Nat.lt_irrefl _))).mono ?_
  rintro e w' ⟨h1, _, h3⟩
  obtain ⟨v', e1, e2⟩ := h1 rfl
  exact ⟨v', e1, e2, h3⟩
theorem read_far (w : World) (h : Held (y.es L jb ++ (dmE L y.p s x :: R)) w) (ho : x.off = false) (hn : x.n ≤ y.next) (hb : y.next ≤ 1000000) :
    Calls Try.prog 36 #[.pointer (some ⟨jb, 0, none⟩)] w fun e w' => e = .returned (.tuple #[.slice none 0 0, .bool false]) ∧ Below w.heap.size w w' := by
  obtain ⟨nx, hnx⟩ : ∃ nx, nx = y.next := ⟨_, rfl⟩
  have c0 : w.cell? ⟨jb, 0, none⟩ = some (.pointer (some ⟨y.p, 0, none⟩)) := (jbox h).cell 0
  have c2 : w.cell? ⟨jb, 2, none⟩ = some (.int .i64 (nx : Int)) := by rw [hnx]; exact (jbox h).cell 2
  have HRN : Hid (∀ X (z : Int), z = (nx : Int) → Below w.heap.size w X → Calls Try.prog 33 #[.pointer (some ⟨y.p, 0, none⟩), .int .i64 z] X fun e w' => e = .returned (.tuple #[.slice none 0 0, .int .i64 201]) ∧ w' = X) := fun X z hz hX => by
    have e1 : reachE x z = 201 := by unfold reachE; rw [if_neg (by simp [ho]), if_pos (by omega)]
    have h2 := read_no z X ((h1d h).more hX) (by rw [e1]; decide)
    rw [e1] at h2
    exact h2
  clear h hnx ho hn
  go_enter Try.func36, Try.ntmps36
  go_wp2_with fail
  go_region_with (go_at_call 33; refine (HRN.out _ _ rfl (by first | exact Below.refl _ _ | exact (Below.refl _ _).drew)).mono ?_; rintro e w2 ⟨rfl, hw2⟩)
  all_goals
    have HF : Hid (Below w.heap.size w w2) := by rw [hw2]; first | exact Below.refl _ _ | exact (Below.refl _ _).drew
    clear hw2 c0 c2
    go_wp2_with fail
    go_ret2
    exact ⟨rfl, by first | exact HF.out | exact below_dr HF.out 1 | exact Below.refl _ _ | exact (Below.refl _ _).drew | exact (Below.refl _ _).drew.drew⟩
theorem read_long (w : World) (h : Held (y.es L jb ++ (dmE L y.p s x :: R)) w) (ho : x.off = false) (hn : y.next < x.n) (hxn : x.n ≤ 65536) (hlen : 8192 < lenIn (secL x.b y.next)) :
    Calls Try.prog 36 #[.pointer (some ⟨jb, 0, none⟩)] w fun e w' => e = .returned (.tuple #[.slice none 0 0, .bool false]) ∧ Below w.heap.size w w' := by
  obtain ⟨nx, hnx⟩ : ∃ nx, nx = y.next := ⟨_, rfl⟩
  obtain ⟨len, hle⟩ : ∃ len, len = lenIn (secL x.b y.next) := ⟨_, rfl⟩
  have hlb : len ≤ 65535 := by
    rw [hle]; unfold lenIn
    have h5 := ((secL x.b y.next).getD 5 0).toNat_lt
    have h6 := ((secL x.b y.next).getD 6 0).toNat_lt
    omega
  have c0 : w.cell? ⟨jb, 0, none⟩ = some (.pointer (some ⟨y.p, 0, none⟩)) := (jbox h).cell 0
  have c2 : w.cell? ⟨jb, 2, none⟩ = some (.int .i64 (nx : Int)) := by rw [hnx]; exact (jbox h).cell 2
  have HRD : Hid (∀ X (z : Int), z = (nx : Int) → Below w.heap.size w X → Calls Try.prog 33 #[.pointer (some ⟨y.p, 0, none⟩), .int .i64 z] X fun e w' => ∃ g c, e = .returned (.tuple #[.slice (some ⟨g, 0, none⟩) 512 c, .int .i64 0]) ∧ w'.ownsRow X.heap.size 5 1 (.slice (some ⟨g, 0, none⟩) 512 c) 512 ((secL x.b y.next).map B) ∧ Below w.heap.size w w') := fun X z hz hX => by
    rw [hz, hnx]
    refine (read_yes y.next X ((h1d h).more hX) ho hn).mono ?_
    rintro e w' ⟨v', rfl, h2, h3⟩
    obtain ⟨g, c, cur, e, _⟩ : ∃ g c cur, v' = .slice (some ⟨g, 0, none⟩) 512 c ∧ cur = () := by
      rcases h2.2 with ⟨_, e2⟩ | ⟨g, c, cur, e, _⟩
      · omega
      · exact ⟨g, c, (), e, rfl⟩
    subst e
    exact ⟨g, c, rfl, h2, hX.trans (h3.mono hX.size)⟩
  have HLN : Hid (∀ (X : World) (L' g c : Nat), X.ownsRow L' 5 1 (.slice (some ⟨g, 0, none⟩) 512 c) 512 ((secL x.b y.next).map B) → Calls Try.prog 52 #[.slice (some ⟨g, 0, none⟩) 512 c] X fun e w' => e = .returned (.int .i64 (len : Int)) ∧ ∃ q, w' = X.drewN q) := fun X L' g c hg => by rw [hle]; exact lengthIn_any X hg
  have hl9 : (8192 : Int) < (len : Int) := by omega
  have hnb : nx ≤ 65536 := by omega
  clear h hnx ho hn hlen hle hxn
  go_enter Try.func36, Try.ntmps36
  go_wp2_with fail
  go_region_with (go_at_call 33; refine (HRD.out _ _ rfl (by first | exact Below.refl _ _ | exact (Below.refl _ _).drew)).mono ?_; rintro e w2 ⟨g, c, rfl, hg2, hb2⟩)
  all_goals
    clear c0 c2
    go_wp2_with fail
    refine Calls.mono (HLN.out _ _ g c (ownsRow_same hg2 (fun _ _ => rfl))) ?_
    rintro e w3 ⟨rfl, q3, hw3⟩
    have HF : Hid (Below w.heap.size w w3) := by rw [hw3]; first | exact below_dr hb2 q3 | exact below_dr hb2.drew q3
    clear hw3 hg2 hb2
    go_wp2_with fail
    go_ret2
    exact ⟨rfl, HF.out⟩
theorem read_no_any (w : World) (h : Held (y.es L jb ++ (dmE L y.p s x :: R)) w) (ho : x.off = false) (hxn : x.n ≤ 65536) (hr : y.recs.length ≤ 1000) (hb : y.next ≤ 1000000) (hok : ¬ RecOk x.b x.n y.next (y.recs.length + 1)) :
    Calls Try.prog 36 #[.pointer (some ⟨jb, 0, none⟩)] w fun e w' => e = .returned (.tuple #[.slice none 0 0, .bool false]) ∧ Below w.heap.size w w' := by
  by_cases h1 : y.next < x.n
  · by_cases h2 : lenIn (secL x.b y.next) ≤ 8192
    · obtain ⟨m, k1, k2, k3⟩ := first_bad (goodP x.b x.n y.next (y.recs.length + 1) (lenIn (secL x.b y.next))) (kS (lenIn (secL x.b y.next)))
      have hmk : m < kS (lenIn (secL x.b y.next)) := by
        rcases Nat.lt_or_ge m (kS (lenIn (secL x.b y.next))) with h3 | h3
        · exact h3
        · exact absurd ⟨h1, h2, fun p hp => k2 p (by omega)⟩ hok
      refine (read_m (m := m) w h ho h1 hxn hr h2 k1 k2 k3).mono ?_
      rintro e w' ⟨_, h3, h4⟩
      exact ⟨h3 hmk, h4⟩
    · exact read_long w h ho h1 hxn (by omega)
  · exact read_far w h ho (by omega) hb
end
end Go.Proofs.Ytjpdcahodmomgaa
