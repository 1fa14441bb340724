import Derived.Test.YtcnokgphioigoaaJF
import Derived.Test.YtcnokgphioigoaaJn24
import Derived.Deep.LoopGhost
import Derived.Deep.Cut
import Derived.BigQuiet
import Derived.Deep.CutRange
namespace Go.Proofs.Ytcnokgphioigoaa
open Go.RowKit Go.PlainAid
set_option linter.unusedVariables false
set_option linter.unusedSimpArgs false
def jv0 (p n : Nat) : JV := ⟨p, .slice none 0 0, [], 0, n⟩
set_option maxRecDepth 100000 in
set_option maxHeartbeats 3200000 in
theorem open_none {L p s : Nat} {x : DV} {R : List (Ent L)} (w : World) (h : Held (dmE L p s x :: R) w) (ho : x.off = false) (hn : 1 ≤ x.n) (hxn : x.n ≤ 65536) (hlen : lenIn (secL x.b 0) ≤ 8192) (hbr : bearsB (secL x.b 0) (markL 1 0 (lenIn (secL x.b 0))) = false) :
    Calls Try.prog 14 #[.pointer (some ⟨p, 0, none⟩)] w fun e w' => ∃ jb, e = .returned (.tuple #[.pointer (some ⟨jb, 0, none⟩), .int .i64 0]) ∧ Held ((jv0 p x.n).es L jb ++ (dmE L p s x :: R)) w' ∧ Below w.heap.size w w' := by
  have hd : DM L p s x w := h.all _ (List.mem_cons_self ..)
  have HON : Hid _ := isOn_any w hd
  rw [ho] at HON
  have HSE : Hid _ := sectors_any w hd
  obtain ⟨w1, hw1⟩ : ∃ w1, w1 = w.alloc (.cells (jv0 p x.n).cs 79) := ⟨_, rfl⟩
  have hb1 : Below w.heap.size w w1 := by rw [hw1]; exact (Below.refl _ _).alloc (Nat.le_refl _) _
  have hB1 : Blk w1 w.heap.size (jv0 p x.n).cs 79 := by rw [hw1]; exact heap_alloc_new w _
  have hL : L ≤ w.heap.size := by have := hd.lt (Or.inl rfl : down p s p); omega
  obtain ⟨jb, hjb⟩ : ∃ jb, jb = w.heap.size := ⟨_, rfl⟩
  have h1 : Held ((jv0 p x.n).es L jb ++ (dmE L p s x :: R)) w1 := by
    have h2 : Held (boxE L jb (jv0 p x.n).cs 79 :: dmE L p s x :: R) w1 := Held.fresh h hb1 ⟨by rw [hjb]; exact hB1, by rw [hjb]; exact hL⟩ (fun k hk => by have : k = jb := hk; omega)
    have h3 : Held (tailE L 38 (.slice none 0 0) 0 [] :: boxE L jb (jv0 p x.n).cs 79 :: dmE L p s x :: R) w1 := h2.add (tail_nil _ _ _) (fun k hk => by cases hk)
    exact h3.perm (List.Perm.swap ..)
  have HRD : Hid _ := read_none w1 h1 ho hn hxn (Nat.zero_le _) hlen hbr
  have H1 : Hid (Held ((jv0 p x.n).es L jb ++ (dmE L p s x :: R)) w1 ∧ Below w.heap.size w w1) := ⟨h1, hb1⟩
  have hcs : (jv0 p x.n).cs = #[.pointer (some ⟨p, 0, none⟩), .slice none 0 0, .int .i64 0, .int .i64 (x.n : Int), .bool false] := rfl
  rw [hcs] at hw1
  clear h hd hb1 hB1 h1 hlen hbr hcs ho
  go_enter Try.func14, Try.ntmps14
  go_wp2_with fail
  refine Calls.mono HON.out ?_
  rintro e wa ⟨rfl, hwa⟩
  replace hwa := hwa.symm
  subst hwa
  clear HON
  go_wp2_with fail
  refine Calls.mono HSE.out ?_
  rintro e wa ⟨rfl, hwa⟩
  replace hwa := hwa.symm
  subst hwa
  clear HSE
  go_wp2_with fail
  rw [← hw1, ← hjb]
  have HJB : Hid (jb = w.heap.size) := hjb
  clear hw1 hjb
  go_loopw [6] (fun _ wr => wr = w1) (fun _ _ => 0)
  case atStart => rfl
  case round =>
    subst hrel
    go_wp2_with fail
    refine Calls.mono HRD.out ?_
    rintro e w2 ⟨rfl, hb2⟩
    have HF : Hid (∃ jb', Value.pointer (some ⟨jb, 0, none⟩) = Value.pointer (some ⟨jb', 0, none⟩) ∧ Held ((jv0 p x.n).es L jb' ++ (dmE L p s x :: R)) w2 ∧ Below w.heap.size w w2) := ⟨jb, rfl, H1.out.1.more hb2, H1.out.2.trans (hb2.mono H1.out.2.size)⟩
    clear HRD hb2 H1
    go_wp2_with fail
    go_ret2
    obtain ⟨jb', e1, h2, h3⟩ := HF.out
    cases e1
    exact ⟨jb, rfl, h2, h3⟩
/-- A disk of zeros has no record. -/
theorem zero_none (n : Nat) : lenIn (secL (fresh n).b 0) ≤ 8192 ∧ bearsB (secL (fresh n).b 0) (markL 1 0 (lenIn (secL (fresh n).b 0))) = false := by
  have e : secL (fresh n).b 0 = List.replicate 512 0 := by
    rw [List.eq_replicate_iff]
    exact ⟨secL_len _ _, fun b hb => by obtain ⟨j, _, rfl⟩ := List.mem_map.1 hb; rfl⟩
  rw [e]
  have e1 : lenIn (List.replicate 512 0) = 0 := by kernel_rfl
  have e2 : bearsB (List.replicate 512 0) (markL 1 0 0) = false := by kernel_rfl
  rw [e1]
  exact ⟨by omega, e2⟩
end Go.Proofs.Ytcnokgphioigoaa
namespace Go.Proofs.Ytcnokgphioigoaa
open Go.RowKit Go.PlainAid
set_option linter.unusedVariables false
set_option linter.unusedSimpArgs false
/-- The records of a disk, one by one. -/
def itR (b : Nat → UInt8) : Nat → List (List UInt8) × Nat
  | 0 => ([], 0)
  | k + 1 => ((itR b k).1 ++ [recB b (itR b k).2 (lenIn (secL b (itR b k).2))], (itR b k).2 + kS (lenIn (secL b (itR b k).2)))
theorem itR_len (b : Nat → UInt8) : ∀ k, (itR b k).1.length = k
  | 0 => rfl
  | k + 1 => by
    show ((itR b k).1 ++ [_]).length = k + 1
    rw [List.length_append, itR_len b k]; rfl
def Upto (b : Nat → UInt8) (n k : Nat) : Prop := ∀ j, j < k → RecOk b n (itR b j).2 (j + 1)
def Full (b : Nat → UInt8) (n k : Nat) : Prop := Upto b n k ∧ ¬ RecOk b n (itR b k).2 (k + 1)
theorem Full.one {b : Nat → UInt8} {n k k' : Nat} (h : Full b n k) (h' : Full b n k') : k = k' := by
  rcases Nat.lt_trichotomy k k' with h1 | h1 | h1
  · exact absurd (h'.1 k h1) h.2
  · exact h1
  · exact absurd (h.1 k' h1) h'.2
theorem RecOk.fit {b : Nat → UInt8} {n next num : Nat} (h : RecOk b n next num) : next + kS (lenIn (secL b next)) ≤ n ∧ lenIn (secL b next) ≤ 8192 := by
  have h1 := kS_pos (lenIn (secL b next))
  have h2 := (h.2.2 (kS (lenIn (secL b next)) - 1) (by omega)).1
  exact ⟨by omega, h.2.1⟩
theorem Upto.le {b : Nat → UInt8} {n : Nat} : ∀ {k}, Upto b n k → k ≤ (itR b k).2 ∧ (itR b k).2 ≤ n ∧ ∀ bs ∈ (itR b k).1, bs.length ≤ 8192
  | 0, _ => ⟨Nat.le_refl _, Nat.zero_le _, fun bs h => by cases h⟩
  | k + 1, h => by
    have h1 := Upto.le (fun j hj => h j (by omega) : Upto b n k)
    have h2 := (h k (by omega)).fit
    have h3 := kS_pos (lenIn (secL b (itR b k).2))
    refine ⟨?_, h2.1, fun bs hb => ?_⟩
    · show k + 1 ≤ (itR b k).2 + kS (lenIn (secL b (itR b k).2))
      omega
    · rcases List.mem_append.1 hb with h4 | h4
      · exact h1.2.2 bs h4
      · rw [List.mem_singleton.1 h4, recB_len]; exact h2.2
/-- What is at a place that is not right, or all of it. -/
theorem first_bad (P : Nat → Prop) (k : Nat) : ∃ m, m ≤ k ∧ (∀ p, p < m → P p) ∧ (m < k → ¬ P m) := by
  classical
  induction k with
  | zero => exact ⟨0, Nat.le_refl _, fun p hp => by omega, fun h => by omega⟩
  | succ k ih =>
    obtain ⟨m, h1, h2, h3⟩ := ih
    by_cases hm : m < k
    · exact ⟨m, by omega, h2, fun _ => h3 hm⟩
    · obtain rfl : m = k := by omega
      by_cases hp : P m
      · exact ⟨m + 1, Nat.le_refl _, fun p hp' => by
          by_cases e : p = m
          · subst e; exact hp
          · exact h2 p (by omega), fun h => by omega⟩
      · exact ⟨m, by omega, h2, fun _ => hp⟩
section
variable {L jb s : Nat} {y : JV} {x : DV} {R : List (Ent L)}
set_option maxRecDepth 100000
set_option maxHeartbeats 1600000
theorem read_yes_any (w : World) (h : Held (y.es L jb ++ (dmE L y.p s x :: R)) w) (ho : x.off = false) (hxn : x.n ≤ 65536) (hr : y.recs.length ≤ 1000) (hok : RecOk x.b x.n y.next (y.recs.length + 1)) :
    Calls Try.prog 35 #[.pointer (some ⟨jb, 0, none⟩)] w fun e w' => ∃ v', e = .returned (.tuple #[v', .bool true]) ∧ w'.ownsRow w.heap.size 5 1 v' (lenIn (secL x.b y.next)) ((recB x.b y.next (lenIn (secL x.b y.next))).map B) ∧ Below w.heap.size w w' := by
  refine (read_m (m := kS (lenIn (secL x.b y.next))) w h ho hok.1 hxn hr hok.2.1 (Nat.le_refl _) hok.2.2 (fun h => absurd h (Nat.lt_irrefl _))).mono ?_
  rintro e w' ⟨h1, _, h3⟩
  obtain ⟨v', e1, e2⟩ := h1 rfl
  exact ⟨v', e1, e2, h3⟩
theorem read_far (w : World) (h : Held (y.es L jb ++ (dmE L y.p s x :: R)) w) (ho : x.off = false) (hn : x.n ≤ y.next) (hb : y.next ≤ 1000000) :
    Calls Try.prog 35 #[.pointer (some ⟨jb, 0, none⟩)] w fun e w' => e = .returned (.tuple #[.slice none 0 0, .bool false]) ∧ Below w.heap.size w w' := by
  obtain ⟨nx, hnx⟩ : ∃ nx, nx = y.next := ⟨_, rfl⟩
  have c0 : w.cell? ⟨jb, 0, none⟩ = some (.pointer (some ⟨y.p, 0, none⟩)) := (jbox h).cell 0
  have c2 : w.cell? ⟨jb, 2, none⟩ = some (.int .i64 (nx : Int)) := by rw [hnx]; exact (jbox h).cell 2
  have HRN : Hid (∀ X (z : Int), z = (nx : Int) → Below w.heap.size w X → Calls Try.prog 32 #[.pointer (some ⟨y.p, 0, none⟩), .int .i64 z] X fun e w' => e = .returned (.tuple #[.slice none 0 0, .int .i64 201]) ∧ w' = X) := fun X z hz hX => by
    have e1 : reachE x z = 201 := by unfold reachE; rw [if_neg (by simp [ho]), if_pos (by omega)]
    have h2 := read_no z X ((h1d h).more hX) (by rw [e1]; decide)
    rw [e1] at h2
    exact h2
  clear h hnx ho hn
  go_enter Try.func35, Try.ntmps35
  go_wp2_with fail
  go_region_with (go_at_call 32; refine (HRN.out _ _ rfl (by first | exact Below.refl _ _ | exact (Below.refl _ _).drew)).mono ?_; rintro e w2 ⟨rfl, hw2⟩)
  all_goals
    have HF : Hid (Below w.heap.size w w2) := by rw [hw2]; first | exact Below.refl _ _ | exact (Below.refl _ _).drew
    clear hw2 c0 c2
    go_wp2_with fail
    go_ret2
    exact ⟨rfl, by first | exact HF.out | exact below_dr HF.out 1 | exact Below.refl _ _ | exact (Below.refl _ _).drew | exact (Below.refl _ _).drew.drew⟩
theorem read_long (w : World) (h : Held (y.es L jb ++ (dmE L y.p s x :: R)) w) (ho : x.off = false) (hn : y.next < x.n) (hxn : x.n ≤ 65536) (hlen : 8192 < lenIn (secL x.b y.next)) :
    Calls Try.prog 35 #[.pointer (some ⟨jb, 0, none⟩)] w fun e w' => e = .returned (.tuple #[.slice none 0 0, .bool false]) ∧ Below w.heap.size w w' := by
  obtain ⟨nx, hnx⟩ : ∃ nx, nx = y.next := ⟨_, rfl⟩
  obtain ⟨len, hle⟩ : ∃ len, len = lenIn (secL x.b y.next) := ⟨_, rfl⟩
  have hlb : len ≤ 65535 := by
    rw [hle]; unfold lenIn
    have h5 := ((secL x.b y.next).getD 5 0).toNat_lt
    have h6 := ((secL x.b y.next).getD 6 0).toNat_lt
    omega
  have c0 : w.cell? ⟨jb, 0, none⟩ = some (.pointer (some ⟨y.p, 0, none⟩)) := (jbox h).cell 0
  have c2 : w.cell? ⟨jb, 2, none⟩ = some (.int .i64 (nx : Int)) := by rw [hnx]; exact (jbox h).cell 2
  have HRD : Hid (∀ X (z : Int), z = (nx : Int) → Below w.heap.size w X → Calls Try.prog 32 #[.pointer (some ⟨y.p, 0, none⟩), .int .i64 z] X fun e w' => ∃ g c, e = .returned (.tuple #[.slice (some ⟨g, 0, none⟩) 512 c, .int .i64 0]) ∧ w'.ownsRow X.heap.size 5 1 (.slice (some ⟨g, 0, none⟩) 512 c) 512 ((secL x.b y.next).map B) ∧ Below w.heap.size w w') := fun X z hz hX => by
    rw [hz, hnx]
    refine (read_yes y.next X ((h1d h).more hX) ho hn).mono ?_
    rintro e w' ⟨v', rfl, h2, h3⟩
    obtain ⟨g, c, cur, e, _⟩ : ∃ g c cur, v' = .slice (some ⟨g, 0, none⟩) 512 c ∧ cur = () := by
      rcases h2.2 with ⟨_, e2⟩ | ⟨g, c, cur, e, _⟩
      · omega
      · exact ⟨g, c, (), e, rfl⟩
    subst e
    exact ⟨g, c, rfl, h2, hX.trans (h3.mono hX.size)⟩
  have HLN : Hid (∀ (X : World) (L' g c : Nat), X.ownsRow L' 5 1 (.slice (some ⟨g, 0, none⟩) 512 c) 512 ((secL x.b y.next).map B) → Calls Try.prog 49 #[.slice (some ⟨g, 0, none⟩) 512 c] X fun e w' => e = .returned (.int .i64 (len : Int)) ∧ ∃ q, w' = X.drewN q) := fun X L' g c hg => by rw [hle]; exact lengthIn_any X hg
  have hl9 : (8192 : Int) < (len : Int) := by omega
  have hnb : nx ≤ 65536 := by omega
  clear h hnx ho hn hlen hle hxn
  go_enter Try.func35, Try.ntmps35
  go_wp2_with fail
  go_region_with (go_at_call 32; refine (HRD.out _ _ rfl (by first | exact Below.refl _ _ | exact (Below.refl _ _).drew)).mono ?_; rintro e w2 ⟨g, c, rfl, hg2, hb2⟩)
  all_goals
    clear c0 c2
    go_wp2_with fail
    refine Calls.mono (HLN.out _ _ g c (ownsRow_same hg2 (fun _ _ => rfl))) ?_
    rintro e w3 ⟨rfl, q3, hw3⟩
    have HF : Hid (Below w.heap.size w w3) := by rw [hw3]; first | exact below_dr hb2 q3 | exact below_dr hb2.drew q3
    clear hw3 hg2 hb2
    go_wp2_with fail
    go_ret2
    exact ⟨rfl, HF.out⟩
theorem read_no_any (w : World) (h : Held (y.es L jb ++ (dmE L y.p s x :: R)) w) (ho : x.off = false) (hxn : x.n ≤ 65536) (hr : y.recs.length ≤ 1000) (hb : y.next ≤ 1000000) (hok : ¬ RecOk x.b x.n y.next (y.recs.length + 1)) :
    Calls Try.prog 35 #[.pointer (some ⟨jb, 0, none⟩)] w fun e w' => e = .returned (.tuple #[.slice none 0 0, .bool false]) ∧ Below w.heap.size w w' := by
  by_cases h1 : y.next < x.n
  · by_cases h2 : lenIn (secL x.b y.next) ≤ 8192
    · obtain ⟨m, k1, k2, k3⟩ := first_bad (goodP x.b x.n y.next (y.recs.length + 1) (lenIn (secL x.b y.next))) (kS (lenIn (secL x.b y.next)))
      have hmk : m < kS (lenIn (secL x.b y.next)) := by
        rcases Nat.lt_or_ge m (kS (lenIn (secL x.b y.next))) with h3 | h3
        · exact h3
        · exact absurd ⟨h1, h2, fun p hp => k2 p (by omega)⟩ hok
      refine (read_m (m := m) w h ho h1 hxn hr h2 k1 k2 k3).mono ?_
      rintro e w' ⟨_, h3, h4⟩
      exact ⟨h3 hmk, h4⟩
    · exact read_long w h ho h1 hxn (by omega)
  · exact read_far w h ho (by omega) hb
end
end Go.Proofs.Ytcnokgphioigoaa
namespace Go.Proofs.Ytcnokgphioigoaa
open Go.RowKit Go.PlainAid
set_option linter.unusedVariables false
set_option linter.unusedSimpArgs false
/-- A journal that has read so many records of a disk. -/
structure JIs (y : JV) (p : Nat) (x : DV) (k : Nat) : Prop where
  p : y.p = p
  recs : y.recs.map Prod.snd = (itR x.b k).1
  next : y.next = (itR x.b k).2
  fin : y.fin = x.n
theorem JIs.len {y : JV} {p : Nat} {x : DV} {k : Nat} (h : JIs y p x k) : y.recs.length = k := by
  have := congrArg List.length h.recs
  rw [itR_len, List.length_map] at this
  exact this
theorem full_is (b : Nat → UInt8) (n : Nat) : ∃ k, k ≤ n ∧ Full b n k := by
  obtain ⟨m, h1, h2, h3⟩ := first_bad (fun j => RecOk b n (itR b j).2 (j + 1)) (n + 1)
  have h4 := Upto.le (b := b) (n := n) (k := m) h2
  exact ⟨m, by omega, h2, h3 (by omega)⟩
theorem itR_next (b : Nat → UInt8) (k : Nat) : itR b (k + 1) = ((itR b k).1 ++ [recB b (itR b k).2 (lenIn (secL b (itR b k).2))], (itR b k).2 + kS (lenIn (secL b (itR b k).2))) := rfl
theorem JIs.more {y : JV} {p : Nat} {x : DV} {k : Nat} (h : JIs y p x k) (rv' v : Value) : JIs (y.added rv' v (recB x.b y.next (lenIn (secL x.b y.next)))) p x (k + 1) := by
  refine ⟨h.p, ?_, ?_, h.fin⟩
  · show (y.recs ++ [(v, _)]).map Prod.snd = _
    rw [List.map_append, h.recs, itR_next, h.next, List.map_cons, List.map_nil]
  · show y.next + kS (recB x.b y.next (lenIn (secL x.b y.next))).length = _
    rw [recB_len, itR_next, h.next]
theorem jis_read {L jb s p k : Nat} {y : JV} {x : DV} {R : List (Ent L)} (w wr : World) (hj : JIs y p x k) (h : Held (y.es L jb ++ (dmE L p s x :: R)) wr) (hb : Below L w wr) (ho : x.off = false) (hxn : x.n ≤ 1000) (hu : Upto x.b x.n (k + 1)) :
    Calls Try.prog 35 #[.pointer (some ⟨jb, 0, none⟩)] wr fun e w' => ∃ vo n c, e = .returned (.tuple #[.slice vo n c, .bool true]) ∧ (∀ W, (∃ q, W = w'.drewN q) → Calls Try.prog 36 #[.pointer (some ⟨jb, 0, none⟩), .slice vo n c] W fun e w2 => e = .returned (.tuple #[]) ∧ ∃ y', JIs y' p x (k + 1) ∧ Held (y'.es L jb ++ (dmE L p s x :: R)) w2 ∧ Below L w w2) := by
  have hle := Upto.le hu
  have hle0 := Upto.le (fun j hj => hu j (by omega) : Upto x.b x.n k)
  have hok : RecOk x.b x.n y.next (y.recs.length + 1) := by rw [hj.next, hj.len]; exact hu k (by omega)
  have hlen := hj.len
  have hpp := hj.p
  subst hpp
  have hL := jlow h
  have hry := read_yes_any wr h ho (by omega) (by have := hle0.1; omega) hok
  have hmore := fun rv' v => hj.more rv' v
  have hbl := recB_len x.b y.next (lenIn (secL x.b y.next))
  have hl8 := hok.2.1
  generalize recB x.b y.next (lenIn (secL x.b y.next)) = bs at hry hmore hbl
  generalize lenIn (secL x.b y.next) = len at hry hbl hl8
  refine hry.mono ?_
  rintro e w' ⟨v', rfl, h1, h2⟩
  obtain ⟨vo, c, rfl, hc⟩ := own_slice h1
  refine ⟨vo, _, c, rfl, fun W hW => ?_⟩
  obtain ⟨q, rfl⟩ := hW
  have h3 : Held (datE L (.slice vo len c, bs) :: (y.es L jb ++ (dmE L y.p s x :: R))) (w'.drewN q) := by
    refine Held.fresh h (below_dr h2 q) ?_ (fun k hk => (ownsRow_lt h1 hk).1)
    show World.ownsRow _ L 5 1 _ bs.length _
    rw [hbl]
    exact ownsRow_mono (ownsRow_same h1 (fun _ _ => rfl)) hL
  have h4 : Held (y.es L jb ++ (datE L (.slice vo len c, bs) :: (dmE L y.p s x :: R))) (w'.drewN q) := h3.perm List.perm_middle.symm
  refine (add_any (w'.drewN q) h4 hbl hl8 (by have := hle0.1; omega) (by rw [hj.next]; have := hle0.2.1; omega)).mono ?_
  rintro e w2 ⟨rfl, rv', h5, h6⟩
  refine ⟨rfl, _, hmore rv' _, h5, (hb.trans (below_dr (h2.mono hL) q)).trans (h6.below (Nat.le_trans hL h2.size) (fun k hk => ?_))⟩
  rcases hk with hk | hk
  · rw [hk]; exact (h.all (boxE L jb y.cs 79) (by simp [JV.es])).2
  · exact (tail_lt (jrow h) k hk).1
set_option maxRecDepth 100000 in
set_option maxHeartbeats 3200000 in
theorem open_any {L p s : Nat} {x : DV} {R : List (Ent L)} (w : World) (h : Held (dmE L p s x :: R) w) (ho : x.off = false) (hxn : x.n ≤ 1000) :
    Calls Try.prog 14 #[.pointer (some ⟨p, 0, none⟩)] w fun e w' => ∃ jb y k, e = .returned (.tuple #[.pointer (some ⟨jb, 0, none⟩), .int .i64 0]) ∧ Full x.b x.n k ∧ JIs y p x k ∧ Held (y.es L jb ++ (dmE L p s x :: R)) w' ∧ Below L w w' := by
  have hd : DM L p s x w := h.all _ (List.mem_cons_self ..)
  have HON : Hid _ := isOn_any w hd
  rw [ho] at HON
  have HSE : Hid _ := sectors_any w hd
  obtain ⟨w1, hw1⟩ : ∃ w1, w1 = w.alloc (.cells (jv0 p x.n).cs 79) := ⟨_, rfl⟩
  have hb1 : Below w.heap.size w w1 := by rw [hw1]; exact (Below.refl _ _).alloc (Nat.le_refl _) _
  have hB1 : Blk w1 w.heap.size (jv0 p x.n).cs 79 := by rw [hw1]; exact heap_alloc_new w _
  have hL : L ≤ w.heap.size := by have := hd.lt (Or.inl rfl : down p s p); omega
  obtain ⟨jb, hjb⟩ : ∃ jb, jb = w.heap.size := ⟨_, rfl⟩
  have h1 : Held ((jv0 p x.n).es L jb ++ (dmE L p s x :: R)) w1 := by
    have h2 : Held (boxE L jb (jv0 p x.n).cs 79 :: dmE L p s x :: R) w1 := Held.fresh h hb1 ⟨by rw [hjb]; exact hB1, by rw [hjb]; exact hL⟩ (fun k hk => by have : k = jb := hk; omega)
    have h3 : Held (tailE L 38 (.slice none 0 0) 0 [] :: boxE L jb (jv0 p x.n).cs 79 :: dmE L p s x :: R) w1 := h2.add (tail_nil _ _ _) (fun k hk => by cases hk)
    exact h3.perm (List.Perm.swap ..)
  obtain ⟨K, hK, hF⟩ := full_is x.b x.n
  have H1 : Hid (∃ y, JIs y p x 0 ∧ Held (y.es L jb ++ (dmE L p s x :: R)) w1 ∧ Below L w w1) := ⟨jv0 p x.n, ⟨rfl, rfl, rfl, rfl⟩, h1, hb1.mono hL⟩
  have HF : Hid (Full x.b x.n K ∧ K ≤ x.n ∧ x.n ≤ 1000 ∧ x.off = false) := ⟨hF, hK, hxn, ho⟩
  have hcs : (jv0 p x.n).cs = #[.pointer (some ⟨p, 0, none⟩), .slice none 0 0, .int .i64 0, .int .i64 (x.n : Int), .bool false] := rfl
  rw [hcs] at hw1
  clear h hd hb1 hB1 h1 hcs ho hK hF hxn hL
  go_enter Try.func14, Try.ntmps14
  go_wp2_with fail
  refine Calls.mono HON.out ?_
  rintro e wa ⟨rfl, hwa⟩
  replace hwa := hwa.symm
  subst hwa
  clear HON
  go_wp2_with fail
  refine Calls.mono HSE.out ?_
  rintro e wa ⟨rfl, hwa⟩
  replace hwa := hwa.symm
  subst hwa
  clear HSE
  go_wp2_with fail
  rw [← hw1, ← hjb]
  clear hw1 hjb
  go_loopg [5, 6] (K + 1) (fun gk _ _ wr => ∃ k y, gk + k = K + 1 ∧ k ≤ K ∧ JIs y p x k ∧ Held (y.es L jb ++ (dmE L p s x :: R)) wr ∧ Below L w wr)
  case atStart =>
    obtain ⟨y, h2⟩ := H1.out
    exact ⟨0, y, by omega, Nat.zero_le _, h2⟩
  case round =>
    clear H1
    obtain ⟨k, y, hgk, hkK, hj, hH, hb⟩ := hrel
    by_cases hlt : k < K
    · have HR : Hid _ := jis_read w wr hj hH hb HF.out.2.2.2 HF.out.2.2.1 (fun j hj => HF.out.1.1 j (by omega))
      have HG : Hid (gk + k = K + 1) := hgk
      clear hj hH hb hgk
      go_wp2_with fail
      refine Calls.mono HR.out ?_
      rintro e w2 ⟨vo, n, c, rfl, hadd⟩
      have HA : Hid _ := hadd w2 ⟨0, rfl⟩
      clear hadd HR
      go_wp2_with fail
      refine Calls.mono HA.out ?_
      rintro e w3 ⟨rfl, y', g1, g2, g3⟩
      have HN : Hid (JIs y' p x (k + 1) ∧ Held (y'.es L jb ++ (dmE L p s x :: R)) w3 ∧ Below L w w3) := ⟨g1, g2, g3⟩
      clear HA g1 g2 g3
      go_wp2_with fail
      go_roundg (gk - 1)
      case rel => exact ⟨k + 1, y', by have := HG.out; omega, by omega, HN.out⟩
      case measure => have := HG.out; omega
    · obtain rfl : k = K := by omega
      have hle := Upto.le HF.out.1.1
      have hpp := hj.p
      have HR : Hid (Calls Try.prog 35 #[.pointer (some ⟨jb, 0, none⟩)] wr fun e w' => e = .returned (.tuple #[.slice none 0 0, .bool false]) ∧ Below wr.heap.size wr w') := by
        subst hpp
        exact read_no_any wr hH HF.out.2.2.2 (by have := HF.out.2.2.1; omega) (by rw [hj.len]; have := HF.out.2.2.1; omega) (by rw [hj.next]; have := HF.out.2.2.1; omega) (by rw [hj.next, hj.len]; exact HF.out.1.2)
      have HH : Hid (JIs y p x k ∧ Held (y.es L jb ++ (dmE L p s x :: R)) wr ∧ Below L w wr) := ⟨hj, hH, hb⟩
      clear hj hH hb hgk hle hpp
      go_wp2_with fail
      refine Calls.mono HR.out ?_
      rintro e w2 ⟨rfl, hb2⟩
      have HN : Hid (∃ jb' y k, Value.pointer (some ⟨jb, 0, none⟩) = Value.pointer (some ⟨jb', 0, none⟩) ∧ Full x.b x.n k ∧ JIs y p x k ∧ Held (y.es L jb' ++ (dmE L p s x :: R)) w2 ∧ Below L w w2) := ⟨jb, y, k, rfl, HF.out.1, HH.out.1, HH.out.2.1.more hb2, HH.out.2.2.trans (hb2.mono (jlow HH.out.2.1))⟩
      clear HR hb2 HH
      go_wp2_with fail
      go_ret2
      obtain ⟨jb', y, k, e, h2⟩ := HN.out
      cases e
      exact ⟨jb, y, k, rfl, h2⟩
end Go.Proofs.Ytcnokgphioigoaa
namespace Go.Proofs.Ytcnokgphioigoaa
open Go.RowKit Go.PlainAid
set_option linter.unusedVariables false
set_option linter.unusedSimpArgs false
set_option maxRecDepth 100000 in
theorem count_any (n : Nat) (w : World) (hn : n ≤ 1000000000000) : Calls Try.prog 59 #[.int .i64 (n : Int)] w fun e w' => e = .returned (.int .i64 (kS n : Int)) ∧ w' = w := by
  by_cases h0 : n = 0
  · subst h0
    go_enter Try.func59, Try.ntmps59
    go_wp2_with fail
    go_ret
    exact ⟨rfl, rfl⟩
  · have hq : Int.tdiv ((n : Int) + 496 - 1) 496 = (((n + 495) / 496 : Nat) : Int) := by
      rw [Int.tdiv_eq_ediv_of_nonneg (by omega)]; omega
    have hk : kS n = (n + 495) / 496 := by unfold kS; omega
    have hne : ¬ ((n : Int) = 0) := by omega
    rw [hk]
    clear hk h0
    go_enter Try.func59, Try.ntmps59
    go_wp2_with fail
    all_goals (go_ret; exact ⟨ret_i64 (by omega), rfl⟩)
theorem imgL_sec (x : DV) (i : Nat) (hi : i < x.n) : ((imgL x).drop (i * 512)).take 8 = (secL x.b i).take 8 ∧ ((imgL x).drop (i * 512 + 504)).take 8 = (secL x.b i).drop 504 := by
  constructor
  · apply List.ext_getElem?
    intro j
    rw [List.getElem?_take, List.getElem?_take]
    split
    · rw [List.getElem?_drop, imgL_get _ _ (by omega), secL_get _ _ _ (by omega)]
    · rfl
  · apply List.ext_getElem?
    intro j
    rw [List.getElem?_take, List.getElem?_drop, List.getElem?_drop]
    split
    · rw [imgL_get _ _ (by omega), secL_get _ _ _ (by omega), Nat.add_assoc]
    · rw [List.getElem?_eq_none (by rw [secL_len]; omega)]
set_option maxRecDepth 100000 in
set_option maxHeartbeats 1600000 in
theorem alike_any {g c h mc N at' : Nat} {im m : List UInt8} (w : World) (hI : By w (.slice (some ⟨g, 0, none⟩) N c) im) (hM : By w (.slice (some ⟨h, 0, none⟩) 8 mc) m) (hat : at' + 8 ≤ N) (hN : N ≤ 100000000) :
    Calls Try.prog 71 #[.slice (some ⟨g, 0, none⟩) N c, .int .i64 (at' : Int), .slice (some ⟨h, 0, none⟩) 8 mc] w fun e w' => e = .returned (.bool ((im.drop at').take 8 == m)) ∧ ∃ q, w' = w.drewN q := by
  obtain ⟨_, _, _, eI, hIl, _, hIc⟩ := hI
  cases eI
  obtain ⟨_, _, _, eM, hMl, _, hMc⟩ := hM
  cases eM
  have HC : Hid (∀ i, i < 8 → ∃ u v : UInt8, im[at' + i]? = some u ∧ m[i]? = some v ∧ (∀ q, (w.drewN q).cell? ⟨g, at' + i, none⟩ = some (.int .u8 (u.toNat : Int))) ∧ (∀ q, (w.drewN q).cell? ⟨h, i, none⟩ = some (.int .u8 (v.toNat : Int)))) := fun i hi => by
    have h1 : im[at' + i]? = some (im[at' + i]'(by omega)) := List.getElem?_eq_getElem _
    have h2 : m[i]? = some (m[i]'(by omega)) := List.getElem?_eq_getElem _
    refine ⟨_, _, h1, h2, fun q => ?_, fun q => ?_⟩
    · have := hIc _ rfl (at' + i) (B (im[at' + i]'(by omega))) (by rw [List.getElem?_map, h1]; rfl)
      rw [addr_add, Nat.zero_add] at this
      exact this
    · have := hMc _ rfl i (B (m[i]'(by omega))) (by rw [List.getElem?_map, h2]; rfl)
      rw [addr_add, Nat.zero_add] at this
      exact this
  obtain ⟨R, hR⟩ : ∃ R, R = ((im.drop at').take 8 == m) := ⟨_, rfl⟩
  have HR : Hid (((∀ j, j < 8 → im[at' + j]? = m[j]?) → R = true) ∧ (∀ j, j < 8 → im[at' + j]? ≠ m[j]? → R = false)) := by
    refine ⟨fun h1 => ?_, fun j hj h1 => ?_⟩
    · rw [hR]
      refine beq_iff_eq.2 (List.ext_getElem? fun j => ?_)
      rw [List.getElem?_take]
      split
      · rw [List.getElem?_drop]; exact h1 j (by omega)
      · rw [List.getElem?_eq_none (by omega)]
    · rw [hR]
      refine beq_eq_false_iff_ne.2 (fun e => h1 ?_)
      rw [← e, List.getElem?_take, if_pos hj, List.getElem?_drop]
  rw [← hR]
  clear hIl hIc hMl hMc hR
  go_enter Try.func71, Try.ntmps71
  go_wp2_with fail
  go_loopw [7] (fun s7 wr => ∃ i : Nat, i ≤ 8 ∧ s7 = .int .i64 (i : Int) ∧ (∀ j, j < i → im[at' + j]? = m[j]?) ∧ ∃ q, wr = w.drewN q) (fun s7 _ => 8 - (intOf s7).toNat)
  case atStart => exact ⟨0, by omega, rfl, fun j hj => by omega, 0, rfl⟩
  case round =>
    obtain ⟨i, hi, rfl, hal, q, hw⟩ := hrel
    have HAL : Hid ((∀ j, j < i → im[at' + j]? = m[j]?) ∧ ∃ q, wr = w.drewN q) := ⟨hal, q, hw⟩
    by_cases hlt : i < 8
    · obtain ⟨u, v, k1, k2, k3, k4⟩ := HC.out i hlt
      have d1 : wr.cell? ⟨g, at' + i, none⟩ = some (.int .u8 (u.toNat : Int)) := by rw [hw]; exact k3 q
      have d2 : wr.cell? ⟨h, i, none⟩ = some (.int .u8 (v.toNat : Int)) := by rw [hw]; exact k4 q
      have hlti : (i : Int) < 8 := by omega
      clear hal hw k3 k4
      by_cases huv : u = v
      · have HE : Hid (im[at' + i]? = m[i]?) := by rw [Hid, k1, k2, huv]
        subst huv
        clear k1 k2
        go_wp2_with fail
        go_quiet (fail)
        have HN : Hid (∃ q, wr.drewN nq = w.drewN q) := by
          obtain ⟨q, e⟩ := HAL.out.2
          exact ⟨q + nq, by rw [e, World.drewN_drewN]⟩
        generalize wr.drewN nq = X at HN ⊢
        clear d1 d2
        go_wp2_with fail
        go_roundw
        case rel => exact ⟨i + 1, by omega, by go_num, fun j hj => by
          by_cases e : j = i
          · subst e; exact HE.out
          · exact HAL.out.1 j (by omega), HN.out⟩
        case measure => simp [intOf]; omega
      · have hne : ¬ ((u.toNat : Int) = (v.toNat : Int)) := fun e => huv (UInt8.toNat_inj.1 (by omega))
        have hneb : ((u.toNat : Int) == (v.toNat : Int)) = false := by simp [hne]
        have HE : Hid (R = false) := HR.out.2 i hlt (by rw [k1, k2]; intro e; exact huv (Option.some.inj e))
        obtain ⟨a, ha⟩ : ∃ a : Int, a = (u.toNat : Int) := ⟨_, rfl⟩
        obtain ⟨b, hb⟩ : ∃ b : Int, b = (v.toNat : Int) := ⟨_, rfl⟩
        rw [← ha] at d1 hne hneb
        rw [← hb] at d2 hne hneb
        clear k1 k2 huv ha hb
        go_wp2_with fail
        go_quiet (fail)
        have HN : Hid (∃ q, wr.drewN nq = w.drewN q) := by
          obtain ⟨q, e⟩ := HAL.out.2
          exact ⟨q + nq, by rw [e, World.drewN_drewN]⟩
        generalize wr.drewN nq = X at HN ⊢
        clear d1 d2
        go_wp2_with fail
        go_ret
        exact ⟨by rw [HE.out]; rfl, HN.out⟩
    · have hlti : ¬ ((i : Int) < 8) := by omega
      have HE : Hid (R = true) := HR.out.1 (fun j hj => hal j (by omega))
      clear hal hw
      go_wp2_with fail
      go_ret
      exact ⟨by rw [HE.out]; rfl, HAL.out.2⟩
end Go.Proofs.Ytcnokgphioigoaa
namespace Go.Proofs.Ytcnokgphioigoaa
open Go.RowKit Go.PlainAid
set_option linter.unusedVariables false
set_option linter.unusedSimpArgs false
theorem lit8 {w W : World} {L h : Nat} {m : List UInt8} (hB : Blk W h (m.map B).toArray 5) (hL : L ≤ h) (hm : m.length = 8) : W.ownsRow L 5 1 (.slice (some ⟨h, 0, none⟩) 8 8) 8 (m.map B) :=
  own_blk hB hL (by simp [hm]) (by unfold maxLen; omega) (fun j hj => by
    rw [List.getElem?_toArray, List.getElem?_map, List.getD_eq_getElem?_getD, List.getElem?_eq_getElem (by omega)]; rfl) hm
theorem mark_cells (num place len : Nat) (z : Int) (kd : UInt8) (hz : z = (place : Int)) (h1 : num ≤ 1000000) (h2 : place ≤ 100) (h3 : len ≤ 8192) : (#[.int .u8 ((num : Int) % 256), .int .u8 ((num : Int) / 256 % 256), .int .u8 ((num : Int) / 65536), .int .u8 ((num : Int) / 16777216), .int .u8 z, .int .u8 ((len : Int) % 256), .int .u8 ((len : Int) / 256), .int .u8 (kd.toNat : Int)] : Array Value) = #[B (byt (num / 2 ^ 0)), B (byt (num / 2 ^ 8)), B (byt (num / 2 ^ 16)), B (byt (num / 2 ^ 24)), B (byt place), B (byt len), B (byt (len / 256)), B kd] := by
  have e0 : B (byt (num / 2 ^ 0)) = .int .u8 ((num : Int) % 256) := by rw [B_byt]; congr 1; omega
  have e1 : B (byt (num / 2 ^ 8)) = .int .u8 ((num : Int) / 256 % 256) := by rw [B_byt]; congr 1 <;> omega
  have e2 : B (byt (num / 2 ^ 16)) = .int .u8 ((num : Int) / 65536) := by rw [B_byt]; congr 1; omega
  have e3 : B (byt (num / 2 ^ 24)) = .int .u8 ((num : Int) / 16777216) := by rw [B_byt]; congr 1; omega
  have e4 : B (byt place) = .int .u8 z := by rw [B_byt, hz]; congr 1; omega
  have e5 : B (byt len) = .int .u8 ((len : Int) % 256) := B_byt len
  have e6 : B (byt (len / 256)) = .int .u8 ((len : Int) / 256) := by rw [B_byt]; congr 1; omega
  rw [e0, e1, e2, e3, e4, e5, e6]
  rfl
set_option maxRecDepth 100000 in
set_option maxHeartbeats 1600000 in
theorem rmark_any (num place len : Nat) (w : World) (h1 : num ≤ 1000000) (h2 : place ≤ 100) (h3 : len ≤ 8192) : Calls Try.prog 70 #[.int .i64 (num : Int), .int .i64 (place : Int), .int .i64 (len : Int)] w fun e w' => ∃ h, e = .returned (.slice (some ⟨h, 0, none⟩) 8 8) ∧ w'.ownsRow w.heap.size 5 1 (.slice (some ⟨h, 0, none⟩) 8 8) 8 ((markL num place len).map B) ∧ Below w.heap.size w w' := by
  have HK : Hid _ := count_any len w (by omega)
  have hkp := kS_pos len
  have hkq := kS_le len h3
  obtain ⟨H, hH⟩ : ∃ H, H = w.heap.size := ⟨_, rfl⟩
  have HH : Hid (H = w.heap.size) := hH
  obtain ⟨k, hk⟩ : ∃ k, k = kS len := ⟨_, rfl⟩
  have HKK : Hid (k = kS len) := hk
  rw [← hk] at HK hkp hkq
  have e0 : (num : Int) % 256 = ((num % 256 : Nat) : Int) := by omega
  have s8 : (num : Int) / 256 = ((num / 256 : Nat) : Int) := by omega
  have s16 : (num : Int) / 65536 = ((num / 65536 : Nat) : Int) := by omega
  have s24 : (num : Int) / 16777216 = ((num / 16777216 : Nat) : Int) := by omega
  have HF : Hid (∀ kd : UInt8, kd = (if place + 1 = k then 2 else 1) → ∀ W, Blk W H #[B (byt (num / 2 ^ 0)), B (byt (num / 2 ^ 8)), B (byt (num / 2 ^ 16)), B (byt (num / 2 ^ 24)), B (byt place), B (byt len), B (byt (len / 256)), B kd] 5 → W.ownsRow w.heap.size 5 1 (.slice (some ⟨H, 0, none⟩) 8 8) 8 ((markL num place len).map B)) := fun kd hkd W hW => by
    refine lit8 (w := w) (m := markL num place len) ?_ (by rw [hH]; exact Nat.le_refl _) (markL_len _ _ _)
    unfold markL
    rw [← hk, ← hkd]
    exact hW
  rw [← hH] at HF ⊢
  clear hk e0 s8 s16 s24
  by_cases hkk : place + 1 = k
  · have hkk' : (place : Int) = (k : Int) - 1 := by omega
    have HG : Hid _ := HF.out 2 (by rw [if_pos hkk])
    clear HF hkk
    go_enter Try.func70, Try.ntmps70
    go_wp2_with fail
    refine Calls.mono HK.out ?_
    rintro e wk ⟨rfl, hwk⟩
    replace hwk := hwk.symm
    subst hwk
    clear HK
    go_wp2_with fail
    have E8 := mark_cells num place len ((k : Int) - 1) 2 hkk'.symm h1 h2 h3
    have HG2 := HG.out _ (heap_alloc_new w _ |> fun h => by rw [← HH.out] at h; rw [← E8]; exact h)
    go_ret
    refine ⟨w.heap.size, rfl, ?_, ?_⟩
    · rw [← HH.out, ← E8] at *
      exact HG2
    · rw [HH.out]; exact (Below.refl _ _).alloc (Nat.le_refl _) _
  · have hkk' : ¬ (place : Int) = (k : Int) - 1 := by omega
    have HG : Hid _ := HF.out 1 (by rw [if_neg hkk])
    clear HF hkk
    go_enter Try.func70, Try.ntmps70
    go_wp2_with fail
    refine Calls.mono HK.out ?_
    rintro e wk ⟨rfl, hwk⟩
    replace hwk := hwk.symm
    subst hwk
    clear HK
    go_wp2_with fail
    have E8 := mark_cells num place len (place : Int) 1 rfl h1 h2 h3
    go_ret
    refine ⟨w.heap.size, rfl, ?_, ?_⟩
    · have HG2 := HG.out _ (heap_alloc_new w _ |> fun h => by rw [← HH.out] at h; rw [← E8]; exact h)
      rw [← HH.out, ← E8] at *
      exact HG2
    · rw [HH.out]; exact (Below.refl _ _).alloc (Nat.le_refl _) _
end Go.Proofs.Ytcnokgphioigoaa
namespace Go.Proofs.Ytcnokgphioigoaa
open Go.RowKit Go.PlainAid
set_option linter.unusedVariables false
set_option linter.unusedSimpArgs false
set_option maxRecDepth 100000
theorem slice38hm (g len cap m : Nat) (h : m ≤ cap) (w : World) : (Instr.sliceAt 38 (.slice (some ⟨g, 0, none⟩) len cap) none (some (.int .i64 (m : Int))) (some (.int .i64 (m : Int)))).run Try.prog w = .ok (.slice (some ⟨g, 0, none⟩) m m) w := by
  have hs : (sizeOf 5).run Try.prog w = .ok 1 w := by kernel_rfl
  have he : Try.prog.elem 38 = 5 := by kernel_rfl
  have hu2 : Try.prog.underlying 38 = some (.slice (Try.prog.elem 38)) := by rw [he]; exact Try.underlying38
  rw [run_sliceAt_slice _ _ _ _ _ _ hu2, run_slice_hm _ _ _ _ _ hu2 .i64 .i64 (m : Int) (m : Int) (by omega) (by omega) (by omega), he, hs]
  simp [Result.andThen, sliced, Addr.add]
theorem recB_more (b : Nat → UInt8) (next i : Nat) : recB b next ((i + 1) * 496) = recB b next (i * 496) ++ ((secL b (next + i)).drop 8).take 496 := by
  apply List.ext_getElem?
  intro j
  by_cases h1 : j < i * 496
  · rw [List.getElem?_append_left (by rw [recB_len]; exact h1), recB, recB, List.getElem?_map, List.getElem?_map, List.getElem?_range (by omega), List.getElem?_range h1]
  · by_cases h2 : j < (i + 1) * 496
    · rw [List.getElem?_append_right (by rw [recB_len]; omega), recB_len, recB, List.getElem?_map, List.getElem?_range h2, List.getElem?_take, if_pos (by omega), List.getElem?_drop, secL_get _ _ _ (by omega)]
      have e1 : j / 496 = i := by omega
      have e2 : j % 496 = j - i * 496 := by omega
      rw [Option.map_some, e1, e2, Nat.add_assoc]
    · rw [List.getElem?_eq_none (by rw [recB_len]; omega), List.getElem?_eq_none (by rw [List.length_append, recB_len, List.length_take, List.length_drop, secL_len]; omega)]
theorem recB_take (b : Nat → UInt8) (next n m : Nat) (h : n ≤ m) : (recB b next m).take n = recB b next n := by
  apply List.ext_getElem?
  intro j
  rw [List.getElem?_take]
  split
  · rw [recB, recB, List.getElem?_map, List.getElem?_map, List.getElem?_range (by omega), List.getElem?_range (by omega)]
  · rw [List.getElem?_eq_none (by rw [recB_len]; omega)]
theorem img_body (x : DV) (i : Nat) (hi : i < x.n) : ((imgL x).drop (i * 512 + 8)).take 496 = ((secL x.b i).drop 8).take 496 := by
  apply List.ext_getElem?
  intro j
  rw [List.getElem?_take, List.getElem?_take]
  split
  · rw [List.getElem?_drop, List.getElem?_drop, imgL_get _ _ (by omega), secL_get _ _ _ (by omega), Nat.add_assoc]
  · rfl
/-- What `stands` tells. -/
def StPost (w : World) (ok : Prop) (bs : List UInt8) (e : Ending) (w' : World) : Prop := (ok → ∃ g, e = .returned (.tuple #[.slice (some ⟨g, 0, none⟩) bs.length bs.length, .bool true]) ∧ w.heap.size ≤ g ∧ g < w'.heap.size ∧ By w' (.slice (some ⟨g, 0, none⟩) bs.length bs.length) bs) ∧ (¬ ok → e = .returned (.tuple #[.slice none 0 0, .bool false])) ∧ Below w.heap.size w w'
set_option maxRecDepth 100000
set_option maxHeartbeats 6400000
theorem stands_far {x : DV} {g c at' num : Nat} (w : World) (hat : x.n ≤ at') (hb : at' ≤ 100000) (hxn : x.n ≤ 65536) : Calls Try.prog 64 #[.slice (some ⟨g, 0, none⟩) (x.n * 512) c, .int .i64 (at' : Int), .int .i64 (num : Int)] w fun e w' => e = .returned (.tuple #[.slice none 0 0, .bool false]) ∧ Below w.heap.size w w' := by
  have hq : Int.tdiv ((x.n * 512 : Nat) : Int) 512 = (x.n : Int) := by rw [Int.tdiv_eq_ediv_of_nonneg (by omega)]; omega
  have hlt : (x.n : Int) - (at' : Int) < 1 := by omega
  go_enter Try.func64, Try.ntmps64
  go_wp2_with fail
  go_ret2
  exact ⟨rfl, Below.refl _ _⟩
end Go.Proofs.Ytcnokgphioigoaa
