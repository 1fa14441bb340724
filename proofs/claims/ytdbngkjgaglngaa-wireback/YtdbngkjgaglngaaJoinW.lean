import Derived.Test.YtdbngkjgaglngaaWMeth
import Derived.Test.YtdbngkjgaglngaaRefA
import Derived.Test.YtdbngkjgaglngaaRDecS
namespace Go.Proofs.Ytdbngkjgaglngaa
open Go.RowKit Go.PlainAid
set_option linter.unusedVariables false

/-- Where the row stands behind an append: where it stood, or in new memory. -/
theorem append_where {w : World} {base k : Nat} {v : Value} {xs : List UInt8} (hown : w.ownsRow base 5 1 v k (xs.map B)) (ad : Addr) (n cap : Nat) (ps : List UInt8) (hn : ps.length = n) (hsrc : From w (some ad) ps) (hlen : k + n ≤ 140737488355328) (ty : TypeId)
    {v' : Value} {w' : World} (hr : (Builtin.append_ #[22, 22] ty #[v, .slice (some ad) n cap]).run Try.prog w = .ok v' w') : ∀ j, v'.ownBlock = some j → v.ownBlock = some j ∨ w.heap.size ≤ j := by
  obtain ⟨i0, hi, hz0, hz1, hz2⟩ := info_parts Try.info5
  rcases hown.2 with ⟨rfl, rfl⟩ | ⟨g, c, cur, rfl, _, hg, hnc, hcm, hcs, htk⟩
  · have hx : xs.map B = [] := List.eq_nil_of_length_eq_zero (by simpa using hown.1)
    obtain ⟨v1, w1, hr1, ho1, _⟩ := run_append_own (P := Try.prog) w w.heap.size 22 ty 5 i0 _ 1 1 Try.underlying22 hi hz0 hz1 hz2 rfl (by decide) (.slice none 0 0) 0 [] (World.ownsRow_nil _ _ _ _) ad n cap (ps.map B) (by simp [hn]) (news_of hsrc) (oneCells ps) (by unfold maxLen; omega) (by omega) (Nat.le_refl _)
    rw [hr] at hr1
    cases hr1
    exact fun j hj => Or.inr (ho1.lt j hj).1
  · by_cases hroom : k + n ≤ c
    · have hr1 := run_append_room (P := Try.prog) w 22 ty 5 i0 Try.underlying22 hi g k c cur hg ad n cap (ps.map B) (by simp [hn, hz1]) (news_of hsrc) (oneCells ps) hroom (by rw [hz1, hcs]; simp [hn]; omega)
      rw [hr] at hr1
      cases hr1
      exact fun j hj => Or.inl hj
    · have hr1 := run_append_grow (P := Try.prog) w 22 ty 5 i0 _ Try.underlying22 hi hz0 ⟨g, 0, none⟩ k c (xs.map B) (by rw [hz1]; exact hown.1) (hown.cells (g := g) rfl) ad n cap (ps.map B) (by simp [hn, hz1]) (news_of hsrc) (by omega) (by omega) (growslice_fits (by omega) (by rw [hz2]; omega))
      rw [hr] at hr1
      cases hr1
      intro j hj
      cases hj
      exact Or.inr (Nat.le_refl _)
/-- What becomes of a row that is appended to, and of all else. -/
structure Grew (w w' : World) (v v' : Value) : Prop where
  g : w.grownBy w' v.ownBlock
  at' : ∀ j, v'.ownBlock = some j → v.ownBlock = some j ∨ w.heap.size ≤ j
theorem Grew.refl (w : World) (v : Value) : Grew w w v v := ⟨⟨rfl, rfl, rfl, Nat.le_refl _, fun _ _ _ => rfl⟩, fun _ h => Or.inl h⟩
theorem Grew.trans {a b c : World} {u v x : Value} (h : Grew a b u v) (k : Grew b c v x) : Grew a c u x := by
  refine ⟨⟨k.g.os.trans h.g.os, k.g.tape.trans h.g.tape, k.g.output.trans h.g.output, Nat.le_trans h.g.size k.g.size, fun j hj hne => ?_⟩, fun j hj => ?_⟩
  · refine (k.g.block j (Nat.lt_of_lt_of_le hj h.g.size) ?_).trans (h.g.block j hj hne)
    intro e
    rcases h.at' j e.symm with h1 | h1
    · exact hne h1.symm
    · omega
  · rcases k.at' j hj with h1 | h1
    · exact h.at' j h1
    · exact Or.inr (Nat.le_trans h.g.size h1)
theorem Grew.below {w w' : World} {v v' : Value} {base : Nat} (h : Grew w w' v v') (hb : ∀ j, v.ownBlock = some j → base ≤ j) (hs : base ≤ w.heap.size) : Below base w w' :=
  ⟨h.g.os, h.g.tape, h.g.output, h.g.size, fun k hk => h.g.block k (by omega) (fun e => by have := hb k e.symm; omega)⟩
theorem Grew.ofAlloc {w w' : World} {v v' : Value} {o : Obj} (h : Grew (w.alloc o) w' v v') : Grew w w' v v' := by
  refine ⟨⟨h.g.os, h.g.tape, h.g.output, by have := h.g.size; rw [World.size_alloc] at this; omega, fun k hk hne => ?_⟩, fun j hj => ?_⟩
  · exact (h.g.block k (by rw [World.size_alloc]; omega) hne).trans (Below.heap_alloc _ _ _ hk)
  · rcases h.at' j hj with h1 | h1
    · exact Or.inl h1
    · rw [World.size_alloc] at h1; exact Or.inr (by omega)
theorem wpList_append_in {w : World} {ops : Array Oper} {rest : List Oper} {o : Oper} {a : Act} {Q : Exit → Act → World → Prop} (hgd : o.guard = none) (s x : Operand)
    (ho : o.op = .call { callee := .builtin .append, args := #[s, x], argTypes := #[22, 22] })
    (base k : Nat) (v : Value) (xs : List UInt8) (hs : a.eval s = v) (hown : w.ownsRow base 5 1 v k (xs.map B))
    (ad : Addr) (n cap : Nat) (ps : List UInt8) (hx : a.eval x = .slice (some ad) n cap) (hn : ps.length = n) (hsrc : From w (some ad) ps)
    (hlen : k + n ≤ 140737488355328) (hbase : base ≤ w.heap.size)
    (h : ∀ v' w', w'.ownsRow base 5 1 v' (k + n) ((xs ++ ps).map B) → Grew w w' v v' → wpList Try.prog ops Q rest (a.put o.dst v') w') : wpList Try.prog ops Q (o :: rest) a w := by
  obtain ⟨i0, hi, hz0, hz1, hz2⟩ := info_parts Try.info5
  obtain ⟨v', w', hr, h1, h2, _⟩ := run_append_own (P := Try.prog) w base 22 o.type 5 i0 _ 1 1 Try.underlying22 hi hz0 hz1 hz2 rfl (by decide) v k (xs.map B) hown ad n cap (ps.map B) (by simp [hn]) (news_of hsrc) (oneCells ps) (by unfold maxLen; omega) (by omega) hbase
  rw [← List.map_append] at h1
  refine wpList_plain hgd fun K hK => ?_
  unfold Oper.wp execOp
  simp only [ho, resolve, invoke, builtin, Sem.run_bind, Sem.run_pure, Result.andThen_ok, List.map_toArray, List.map_cons, List.map_nil, hs, hx, hr]
  exact hK _ _ (h v' w' h1 ⟨h2, append_where hown ad n cap ps hn hsrc hlen _ hr⟩)

set_option maxRecDepth 100000 in
set_option maxHeartbeats 800000 in
/-- The reference's number. -/
theorem rnumber_any (base n : Nat) (v : Value) (out : List UInt8) (w : World) (hown : w.ownsRow base 5 1 v out.length (out.map B)) (hbase : base ≤ w.heap.size) (hn : n < 2 ^ 64) (hl : out.length ≤ 1000000) :
    Calls Try.prog 89 #[v, .int .u64 (n : Nat)] w fun e w' => ∃ v', e = .returned v' ∧ w'.ownsRow base 5 1 v' (out ++ put n).length ((out ++ put n).map B) ∧ Grew w w' v v' := by
  have h10 : n < 128 ^ (9 + 1) := Nat.lt_of_lt_of_le hn (by decide)
  go_enter Try.func89, Try.ntmps89
  go_wp2
  go_loopw [0, 1] (fun vr u wr => ∃ (f m : Nat) (pre : List UInt8), u = .int .u64 (m : Nat) ∧ m < 2 ^ 64 ∧ m < 128 ^ (f + 1) ∧ put n = pre ++ putF (f + 1) m ∧ f + pre.length ≤ 10 ∧ wr.ownsRow base 5 1 vr (out ++ pre).length ((out ++ pre).map B) ∧ Grew w wr v vr) (fun _ u _ => (intOf u).toNat)
  case atStart => exact ⟨9, n, [], rfl, hn, h10, rfl, by simp, by simpa using hown, Grew.refl _ _⟩
  case round =>
    obtain ⟨f, m, pre, rfl, hm, hmf, hput, hfl, hown, hb⟩ := hrel
    have hlo : (out ++ pre).length ≤ 1000100 := by simp; omega
    have hsz := hb.g.size
    clear hn h10
    generalize hX : out ++ pre = X at *
    by_cases hlt : 127 < m
    · obtain ⟨f, rfl⟩ : ∃ g, f = g + 1 := by
        cases f with
        | zero => simp at hmf; omega
        | succ g => exact ⟨g, rfl⟩
      have hmf' : m / 128 < 128 ^ (f + 1) := by rw [Nat.pow_succ] at hmf; omega
      have hput' : put n = (pre ++ [UInt8.ofNat (m % 128 + 128)]) ++ putF (f + 1) (m / 128) := by
        rw [hput, putF_step _ _ (by omega)]; simp
      have hu : (UInt8.ofNat (m % 128 + 128)).toNat = m % 128 + 128 := u8_of_lt (by omega)
      generalize UInt8.ofNat (m % 128 + 128) = u at *
      have HP : Hid _ := hput'
      have HF : Hid _ := hmf'
      have HX : Hid _ := hX
      clear hput' hmf' hput hmf hX
      have hs1 := from_mark wr [u] #[.int .u8 ((m : Int) % 128 + 128)] (0, 0) (by simp [B, hu])
      go_wp2_with (first
        | (at_builtin; go_must (refine wpList_append_in rfl _ _ rfl base _ _ _ rfl (hown.alloc _) _ 1 1 [u] rfl rfl hs1 (by omega) (by simp; omega) ?_))
        | fail)
      intro v1 w1 hown1 hg1
      replace hown1 : w1.ownsRow base 5 1 v1 (X.length + 1) ((X ++ [u]).map B) := by simpa using hown1
      have hb1 := hb.trans hg1.ofAlloc
      clear hg1 hs1 hown hb
      go_wp2
      go_roundw
      case rel => exact ⟨f, m / 128, pre ++ [u], by go_num, by omega, HF.out, HP.out, by simp; omega, by rw [← List.append_assoc, HX.out, List.length_append]; exact hown1, hb1⟩
      case measure => simp [intOf]; omega
    · have hu : (UInt8.ofNat m).toNat = m := u8_of_lt (by omega)
      have hput' : X ++ [UInt8.ofNat m] = out ++ put n := by rw [hput, putF_end _ _ (by omega), ← hX]; simp
      generalize UInt8.ofNat m = u at *
      have hs1 := from_mark wr [u] #[.int .u8 (m : Int)] (0, 0) (by simp [B, hu])
      have HP : Hid _ := hput'
      clear hput' hput hmf hX hu
      go_wp2_with (first
        | (at_builtin; go_must (refine wpList_append_in rfl _ _ rfl base _ _ _ rfl (hown.alloc _) _ 1 1 [u] rfl rfl hs1 (by omega) (by simp; omega) ?_))
        | fail)
      intro v1 w1 hown1 hg1
      replace hown1 : w1.ownsRow base 5 1 v1 (X.length + 1) ((X ++ [u]).map B) := by simpa using hown1
      have hb1 := hb.trans hg1.ofAlloc
      clear hg1 hs1 hown hb
      go_wp2
      go_ret
      exact ⟨_, rfl, by rw [← HP.out, List.length_append]; exact hown1, hb1⟩
end Go.Proofs.Ytdbngkjgaglngaa
namespace Go.Proofs.Ytdbngkjgaglngaa
open Go.RowKit Go.PlainAid
set_option linter.unusedVariables false

/-- Numbers, one behind the other. -/
def plainW (xs : List Nat) : List UInt8 := xs.flatMap put
theorem plainW_snoc (xs : List Nat) (k x : Nat) (h : xs[k]? = some x) : plainW (xs.take (k + 1)) = plainW (xs.take k) ++ put x := by
  rw [plainW, plainW, List.take_add_one, h]
  simp
theorem plainW_len (xs : List Nat) (h : ∀ x ∈ xs, x < 9223372036854775808) : (plainW xs).length ≤ 10 * xs.length := by
  induction xs with
  | nil => simp [plainW]
  | cons a t ih =>
    have h1 := ih fun x hx => h x (List.mem_cons_of_mem _ hx)
    have h2 := (put_len a (by have := h a (List.mem_cons_self ..); omega)).2.1
    simp only [plainW, List.flatMap_cons, List.length_append, List.length_cons] at *
    omega
set_option maxRecDepth 100000 in
set_option maxHeartbeats 800000 in
theorem rplain_any (base : Nat) (v : Value) (out : List UInt8) (w : World) (hown : w.ownsRow base 5 1 v out.length (out.map B)) (hbase : base ≤ w.heap.size)
    (lb off k c : Nat) (xs : List Nat) (hk : xs.length = k) (hcell : ∀ i x, xs[i]? = some x → w.cell? ⟨lb, off + i, none⟩ = some (.int .i64 (x : Nat))) (hlb : lb < w.heap.size) (hne : v.ownBlock ≠ some lb) (hr : ∀ x ∈ xs, x < 9223372036854775808) (hl : out.length + 10 * k ≤ 900000) :
    Calls Try.prog 80 #[v, .slice (some ⟨lb, off, none⟩) k c] w fun e w' => ∃ v', e = .returned v' ∧ w'.ownsRow base 5 1 v' (out ++ plainW xs).length ((out ++ plainW xs).map B) ∧ Grew w w' v v' := by
  have H : Hid _ := And.intro hcell hr
  clear hcell hr
  go_enter Try.func80, Try.ntmps80
  go_wp2
  go_loopw [0, 5] (fun vr iv wr => ∃ i : Nat, i ≤ k ∧ iv = .int .i64 (i : Nat) ∧ wr.ownsRow base 5 1 vr (out ++ plainW (xs.take i)).length ((out ++ plainW (xs.take i)).map B) ∧ Grew w wr v vr) (fun _ iv _ => k - (intOf iv).toNat)
  case atStart => exact ⟨0, by omega, rfl, by simpa [plainW] using hown, Grew.refl _ _⟩
  case round =>
    obtain ⟨i, hi, rfl, ho, hG⟩ := hrel
    by_cases hlt : i < k
    · obtain ⟨x, hx⟩ : ∃ x, xs[i]? = some x := ⟨_, List.getElem?_eq_getElem (by omega)⟩
      have hc : wr.cell? ⟨lb, off + i, none⟩ = some (.int .i64 (x : Nat)) := (World.cell?_of_block (w := w) (hG.g.block lb hlb (fun e => hne e.symm))).trans (H.out.1 i x hx)
      have hxr := H.out.2 x (List.mem_of_getElem? hx)
      have hs := plainW_snoc xs i x hx
      have hpl := plainW_len (xs.take i) (fun y hy => H.out.2 y (List.mem_of_mem_take hy))
      have hnum := rnumber_any base x _ (out ++ plainW (xs.take i)) wr ho (by have := hG.g.size; omega) (by omega) (by rw [List.length_append]; rw [List.length_take] at hpl; omega)
      rw [List.append_assoc, ← hs] at hnum
      have HN : Hid _ := hnum
      clear hnum hs hpl hx ho
      go_wp2_with (first | (go_at_call 89; refine Calls.mono HN.out ?_; rintro e1 w1 ⟨v1, rfl, ho1, hG1⟩) | fail)
      go_roundw
      case rel => exact ⟨i + 1, by omega, by go_num, ho1, hG.trans hG1⟩
      case measure => simp [intOf]; omega
    · have e : xs.take i = xs := List.take_of_length_le (by omega)
      rw [e] at ho
      clear e
      go_wp2
      go_ret
      exact ⟨_, rfl, ho, hG⟩
end Go.Proofs.Ytdbngkjgaglngaa
namespace Go.Proofs.Ytdbngkjgaglngaa
open Go.RowKit Go.PlainAid
set_option linter.unusedSimpArgs false
set_option linter.unusedVariables false

set_option maxRecDepth 100000 in
set_option maxHeartbeats 800000 in
/-- The reference's signed number. -/
theorem rsigned_any (base : Nat) (v : Value) (out : List UInt8) (w : World) (x : Int) (hown : w.ownsRow base 5 1 v out.length (out.map B)) (hbase : base ≤ w.heap.size) (hx1 : (-9223372036854775808 : Int) ≤ x) (hx2 : x < 9223372036854775808) (hl : out.length ≤ 1000000) :
    Calls Try.prog 99 #[v, .int .i64 x] w fun e w' => ∃ v', e = .returned v' ∧ w'.ownsRow base 5 1 v' (out ++ put (zig x)).length ((out ++ put (zig x)).map B) ∧ Grew w w' v v' := by
  have hnum := rnumber_any base (zig x) v out w hown hbase (zig_lt x hx1 hx2) hl
  by_cases h : 0 ≤ x
  · rw [show ((zig x : Nat) : Int) = 2 * x from by unfold zig; rw [if_pos h]; omega] at hnum
    have HN : Hid _ := hnum
    clear hnum hown
    go_enter Try.func99, Try.ntmps99
    go_wp2_with (first | (go_at_call 89; refine Calls.mono HN.out ?_; rintro e1 w1 ⟨v1, rfl, ho1, hG1⟩) | fail)
    go_ret
    exact ⟨_, rfl, ho1, hG1⟩
  · rw [show ((zig x : Nat) : Int) = 2 * (-(x + 1)) + 1 from by unfold zig; rw [if_neg h]; omega] at hnum
    have HN : Hid _ := hnum
    clear hnum hown
    go_enter Try.func99, Try.ntmps99
    go_wp2_with (first | (go_at_call 89; refine Calls.mono HN.out ?_; rintro e1 w1 ⟨v1, rfl, ho1, hG1⟩) | fail)
    go_ret
    exact ⟨_, rfl, ho1, hG1⟩

def segRight (s : Seg) : Bool := inB s.src 0 15 && inB s.dst 0 15 && inB s.seq 0 1099511627776 && inB s.ack 0 1099511627776 && (decide ((s.data.length : Int) ≤ 4000) && ((s.seq == 0) == ((s.data.length : Int) == 0)))
set_option maxRecDepth 100000 in
set_option maxHeartbeats 1600000 in
theorem rright_any (s : Seg) (ao : Option Addr) (c : Nat) (w : World) :
    Calls Try.prog 29 #[.agg (segCells s.src s.dst s.seq s.ack (.slice ao s.data.length c))] w fun e w' => e = .returned (.bool (segRight s)) ∧ Below w.heap.size w w' := by
  have h1 := fun w => rwithin_any s.src 0 15 w
  have h2 := fun w => rwithin_any s.dst 0 15 w
  have h3 := fun w => rwithin_any s.seq 0 1099511627776 w
  have h4 := fun w => rwithin_any s.ack 0 1099511627776 w
  unfold segRight
  generalize inB s.src 0 15 = p at *
  generalize inB s.dst 0 15 = q at *
  generalize inB s.seq 0 1099511627776 = r at *
  generalize inB s.ack 0 1099511627776 = t at *
  have H : Hid _ := And.intro h1 (And.intro h2 (And.intro h3 h4))
  clear h1 h2 h3 h4
  obtain ⟨src, dst, seq, ack, data⟩ := s
  simp only at *
  generalize data.length = n at *
  unfold segCells
  cases p
  · go_enter Try.func29, Try.ntmps29
    go_wp2_with (first | (go_at_call 48; first | (with_reducible refine (H.out.1 _).mono ?_; rintro e2 w2 ⟨rfl, rfl⟩) | (with_reducible refine (H.out.2.1 _).mono ?_; rintro e2 w2 ⟨rfl, rfl⟩) | (with_reducible refine (H.out.2.2.1 _).mono ?_; rintro e2 w2 ⟨rfl, rfl⟩) | (with_reducible refine (H.out.2.2.2 _).mono ?_; rintro e2 w2 ⟨rfl, rfl⟩)) | fail)
    go_ret
    exact ⟨ret_bool (by simp), by go_grown⟩
  cases q
  · go_enter Try.func29, Try.ntmps29
    go_wp2_with (first | (go_at_call 48; first | (with_reducible refine (H.out.1 _).mono ?_; rintro e2 w2 ⟨rfl, rfl⟩) | (with_reducible refine (H.out.2.1 _).mono ?_; rintro e2 w2 ⟨rfl, rfl⟩) | (with_reducible refine (H.out.2.2.1 _).mono ?_; rintro e2 w2 ⟨rfl, rfl⟩) | (with_reducible refine (H.out.2.2.2 _).mono ?_; rintro e2 w2 ⟨rfl, rfl⟩)) | fail)
    go_ret
    exact ⟨ret_bool (by simp), by go_grown⟩
  cases r
  · go_enter Try.func29, Try.ntmps29
    go_wp2_with (first | (go_at_call 48; first | (with_reducible refine (H.out.1 _).mono ?_; rintro e2 w2 ⟨rfl, rfl⟩) | (with_reducible refine (H.out.2.1 _).mono ?_; rintro e2 w2 ⟨rfl, rfl⟩) | (with_reducible refine (H.out.2.2.1 _).mono ?_; rintro e2 w2 ⟨rfl, rfl⟩) | (with_reducible refine (H.out.2.2.2 _).mono ?_; rintro e2 w2 ⟨rfl, rfl⟩)) | fail)
    go_ret
    exact ⟨ret_bool (by simp), by go_grown⟩
  cases t
  · go_enter Try.func29, Try.ntmps29
    go_wp2_with (first | (go_at_call 48; first | (with_reducible refine (H.out.1 _).mono ?_; rintro e2 w2 ⟨rfl, rfl⟩) | (with_reducible refine (H.out.2.1 _).mono ?_; rintro e2 w2 ⟨rfl, rfl⟩) | (with_reducible refine (H.out.2.2.1 _).mono ?_; rintro e2 w2 ⟨rfl, rfl⟩) | (with_reducible refine (H.out.2.2.2 _).mono ?_; rintro e2 w2 ⟨rfl, rfl⟩)) | fail)
    go_ret
    exact ⟨ret_bool (by simp), by go_grown⟩
  by_cases hn : n ≤ 4000
  · have hn' : (n : Int) ≤ 4000 := by omega
    go_enter Try.func29, Try.ntmps29
    go_wp2_with (first | (go_at_call 48; first | (with_reducible refine (H.out.1 _).mono ?_; rintro e2 w2 ⟨rfl, rfl⟩) | (with_reducible refine (H.out.2.1 _).mono ?_; rintro e2 w2 ⟨rfl, rfl⟩) | (with_reducible refine (H.out.2.2.1 _).mono ?_; rintro e2 w2 ⟨rfl, rfl⟩) | (with_reducible refine (H.out.2.2.2 _).mono ?_; rintro e2 w2 ⟨rfl, rfl⟩)) | fail)
    go_ret
    exact ⟨ret_bool (by simp [hn']), by go_grown⟩
  · have hn' : ¬ (n : Int) ≤ 4000 := by omega
    go_enter Try.func29, Try.ntmps29
    go_wp2_with (first | (go_at_call 48; first | (with_reducible refine (H.out.1 _).mono ?_; rintro e2 w2 ⟨rfl, rfl⟩) | (with_reducible refine (H.out.2.1 _).mono ?_; rintro e2 w2 ⟨rfl, rfl⟩) | (with_reducible refine (H.out.2.2.1 _).mono ?_; rintro e2 w2 ⟨rfl, rfl⟩) | (with_reducible refine (H.out.2.2.2 _).mono ?_; rintro e2 w2 ⟨rfl, rfl⟩)) | fail)
    go_ret
    exact ⟨ret_bool (by simp; omega), by go_grown⟩
theorem segRight_is (s : Seg) : (segment.wr s).isSome = segRight s := by
  obtain ⟨src, dst, seq, ack, data⟩ := s
  have e : segment.wr ⟨src, dst, seq, ack, data⟩ = join ((num 0 15).wr src) (join ((num 0 15).wr dst) (join ((num 0 maxN).wr seq) (join ((num 0 maxN).wr ack) ((dataC seq).wr data)))) := rfl
  have hj : ∀ a b, (join a b).isSome = (a.isSome && b.isSome) := by intro a b; cases a <;> cases b <;> rfl
  rw [e, dataC_wr, hj, hj, hj, hj, hj, num_is, num_is, num_is, num_is, num_is]
  simp only [segRight, Option.isSome_some, Bool.and_true]
  have hm : ((maxN : Nat) : Int) = 1099511627776 := rfl
  rw [hm, show ((0 : Nat) : Int) = 0 from rfl, show ((15 : Nat) : Int) = 15 from rfl]
  have hd : inB (data.length : Int) (lowOf seq : Nat) (highOf seq : Nat) = (decide ((data.length : Int) ≤ 4000) && ((seq == 0) == ((data.length : Int) == 0))) := by
    by_cases h : seq = 0
    · subst h
      by_cases hl : data.length = 0
      · rw [hl]; decide
      · have h1 : ((data.length : Int) == 0) = false := by rw [beq_eq_false_iff_ne]; omega
        have h2 : ¬ ((data.length : Int) ≤ ((highOf 0 : Nat) : Int)) := by show ¬ ((data.length : Int) ≤ ((0 : Nat) : Int)); omega
        rw [h1, inB, decide_eq_false h2, Bool.and_false]
        simp
    · have h1 : (seq == 0) = false := by rw [beq_eq_false_iff_ne]; exact h
      rw [h1]
      by_cases hl : data.length = 0
      · rw [hl]; simp [inB, lowOf, h]
      · have h2 : ((data.length : Int) == 0) = false := by rw [beq_eq_false_iff_ne]; omega
        rw [h2]
        simp [inB, lowOf, highOf, h]
        omega
  rw [hd]
  simp only [Bool.and_assoc]
end Go.Proofs.Ytdbngkjgaglngaa
