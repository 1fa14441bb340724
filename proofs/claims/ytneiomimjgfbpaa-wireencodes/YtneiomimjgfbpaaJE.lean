import Derived.Test.YtneiomimjgfbpaaWMeth
import Derived.Test.YtneiomimjgfbpaaJR
import Derived.Test.YtneiomimjgfbpaaJC
namespace Go.Proofs.Ytneiomimjgfbpaa
open Go.RowKit Go.PlainAid
set_option linter.unusedVariables false
theorem append_where {w : World} {base k : Nat} {v : Value} {xs : List UInt8} (hown : w.ownsRow base 5 1 v k (xs.map B)) (ad : Addr) (n cap : Nat) (ps : List UInt8) (hn : ps.length = n) (hsrc : From w (some ad) ps) (hlen : k + n ≤ 140737488355328) (ty : TypeId)
    {v' : Value} {w' : World} (hr : (Builtin.append_ #[22, 22] ty #[v, .slice (some ad) n cap]).run Try.prog w = .ok v' w') : ∀ j, v'.ownBlock = some j → v.ownBlock = some j ∨ w.heap.size ≤ j := by
  obtain ⟨i0, hi, hz0, hz1, hz2⟩ := info_parts Try.info5
  rcases hown.2 with ⟨rfl, rfl⟩ | ⟨g, c, cur, rfl, _, hg, hnc, hcm, hcs, htk⟩
  · have hx : xs.map B = [] := List.eq_nil_of_length_eq_zero (by simpa using hown.1)
    obtain ⟨v1, w1, hr1, ho1, _⟩ := run_append_own (P := Try.prog) w w.heap.size 22 ty 5 i0 _ 1 1 Try.underlying22 hi hz0 hz1 hz2 rfl (by decide) (.slice none 0 0) 0 [] (World.ownsRow_nil _ _ _ _) ad n cap (ps.map B) (by simp [hn]) (news_of hsrc) (oneCells ps) (by unfold maxLen; omega) (by omega) (Nat.le_refl _)
    rw [hr] at hr1
    cases hr1
    exact fun j hj => Or.inr (ho1.lt j hj).1
  · by_cases hroom : k + n ≤ c
    · have hr1 := run_append_room (P := Try.prog) w 22 ty 5 i0 Try.underlying22 hi g k c cur hg ad n cap (ps.map B) (by simp [hn, hz1]) (news_of hsrc) (oneCells ps) hroom (by rw [hz1, hcs]; simp [hn]; omega)
      rw [hr] at hr1
      cases hr1
      exact fun j hj => Or.inl hj
    · have hr1 := run_append_grow (P := Try.prog) w 22 ty 5 i0 _ Try.underlying22 hi hz0 ⟨g, 0, none⟩ k c (xs.map B) (by rw [hz1]; exact hown.1) (hown.cells (g := g) rfl) ad n cap (ps.map B) (by simp [hn, hz1]) (news_of hsrc) (by omega) (by omega) (growslice_fits (by omega) (by rw [hz2]; omega))
      rw [hr] at hr1
      cases hr1
      intro j hj
      cases hj
      exact Or.inr (Nat.le_refl _)
structure Grew (w w' : World) (v v' : Value) : Prop where
  g : w.grownBy w' v.ownBlock
  at' : ∀ j, v'.ownBlock = some j → v.ownBlock = some j ∨ w.heap.size ≤ j
theorem Grew.refl (w : World) (v : Value) : Grew w w v v := ⟨⟨rfl, rfl, rfl, Nat.le_refl _, fun _ _ _ => rfl⟩, fun _ h => Or.inl h⟩
theorem Grew.trans {a b c : World} {u v x : Value} (h : Grew a b u v) (k : Grew b c v x) : Grew a c u x := by
  refine ⟨⟨k.g.os.trans h.g.os, k.g.tape.trans h.g.tape, k.g.output.trans h.g.output, Nat.le_trans h.g.size k.g.size, fun j hj hne => ?_⟩, fun j hj => ?_⟩
  · refine (k.g.block j (Nat.lt_of_lt_of_le hj h.g.size) ?_).trans (h.g.block j hj hne)
    intro e
    rcases h.at' j e.symm with h1 | h1
    · exact hne h1.symm
    · omega
  · rcases k.at' j hj with h1 | h1
    · exact h.at' j h1
    · exact Or.inr (Nat.le_trans h.g.size h1)
theorem Grew.below {w w' : World} {v v' : Value} {base : Nat} (h : Grew w w' v v') (hb : ∀ j, v.ownBlock = some j → base ≤ j) (hs : base ≤ w.heap.size) : Below base w w' :=
  ⟨h.g.os, h.g.tape, h.g.output, h.g.size, fun k hk => h.g.block k (by omega) (fun e => by have := hb k e.symm; omega)⟩
theorem Grew.ofAlloc {w w' : World} {v v' : Value} {o : Obj} (h : Grew (w.alloc o) w' v v') : Grew w w' v v' := by
  refine ⟨⟨h.g.os, h.g.tape, h.g.output, by have := h.g.size; rw [World.size_alloc] at this; omega, fun k hk hne => ?_⟩, fun j hj => ?_⟩
  · exact (h.g.block k (by rw [World.size_alloc]; omega) hne).trans (Below.heap_alloc _ _ _ hk)
  · rcases h.at' j hj with h1 | h1
    · exact Or.inl h1
    · rw [World.size_alloc] at h1; exact Or.inr (by omega)
theorem wpList_append_in {w : World} {ops : Array Oper} {rest : List Oper} {o : Oper} {a : Act} {Q : Exit → Act → World → Prop} (hgd : o.guard = none) (s x : Operand)
    (ho : o.op = .call { callee := .builtin .append, args := #[s, x], argTypes := #[22, 22] })
    (base k : Nat) (v : Value) (xs : List UInt8) (hs : a.eval s = v) (hown : w.ownsRow base 5 1 v k (xs.map B))
    (ad : Addr) (n cap : Nat) (ps : List UInt8) (hx : a.eval x = .slice (some ad) n cap) (hn : ps.length = n) (hsrc : From w (some ad) ps)
    (hlen : k + n ≤ 140737488355328) (hbase : base ≤ w.heap.size)
    (h : ∀ v' w', w'.ownsRow base 5 1 v' (k + n) ((xs ++ ps).map B) → Grew w w' v v' → wpList Try.prog ops Q rest (a.put o.dst v') w') : wpList Try.prog ops Q (o :: rest) a w := by
  obtain ⟨i0, hi, hz0, hz1, hz2⟩ := info_parts Try.info5
  obtain ⟨v', w', hr, h1, h2, _⟩ := run_append_own (P := Try.prog) w base 22 o.type 5 i0 _ 1 1 Try.underlying22 hi hz0 hz1 hz2 rfl (by decide) v k (xs.map B) hown ad n cap (ps.map B) (by simp [hn]) (news_of hsrc) (oneCells ps) (by unfold maxLen; omega) (by omega) hbase
  rw [← List.map_append] at h1
  refine wpList_plain hgd fun K hK => ?_
  unfold Oper.wp execOp
  simp only [ho, resolve, invoke, builtin, Sem.run_bind, Sem.run_pure, Result.andThen_ok, List.map_toArray, List.map_cons, List.map_nil, hs, hx, hr]
  exact hK _ _ (h v' w' h1 ⟨h2, append_where hown ad n cap ps hn hsrc hlen _ hr⟩)
set_option maxRecDepth 100000 in
set_option maxHeartbeats 800000 in
theorem rnumber_any (base n : Nat) (v : Value) (out : List UInt8) (w : World) (hown : w.ownsRow base 5 1 v out.length (out.map B)) (hbase : base ≤ w.heap.size) (hn : n < 2 ^ 64) (hl : out.length ≤ 1000000) :
    Calls Try.prog 96 #[v, .int .u64 (n : Nat)] w fun e w' => ∃ v', e = .returned v' ∧ w'.ownsRow base 5 1 v' (out ++ put n).length ((out ++ put n).map B) ∧ Grew w w' v v' := by
  have h10 : n < 128 ^ (9 + 1) := Nat.lt_of_lt_of_le hn (by decide)
  go_enter Try.func96, Try.ntmps96
  go_wp2
  go_loopw [0, 1] (fun vr u wr => ∃ (f m : Nat) (pre : List UInt8), u = .int .u64 (m : Nat) ∧ m < 2 ^ 64 ∧ m < 128 ^ (f + 1) ∧ put n = pre ++ putF (f + 1) m ∧ f + pre.length ≤ 10 ∧ wr.ownsRow base 5 1 vr (out ++ pre).length ((out ++ pre).map B) ∧ Grew w wr v vr) (fun _ u _ => (intOf u).toNat)
  case atStart => exact ⟨9, n, [], rfl, hn, h10, rfl, by simp, by simpa using hown, Grew.refl _ _⟩
  case round =>
    obtain ⟨f, m, pre, rfl, hm, hmf, hput, hfl, hown, hb⟩ := hrel
    have hlo : (out ++ pre).length ≤ 1000100 := by simp; omega
    have hsz := hb.g.size
    clear hn h10
    generalize hX : out ++ pre = X at *
    by_cases hlt : 127 < m
    · obtain ⟨f, rfl⟩ : ∃ g, f = g + 1 := by
        cases f with
        | zero => simp at hmf; omega
        | succ g => exact ⟨g, rfl⟩
      have hmf' : m / 128 < 128 ^ (f + 1) := by rw [Nat.pow_succ] at hmf; omega
      have hput' : put n = (pre ++ [UInt8.ofNat (m % 128 + 128)]) ++ putF (f + 1) (m / 128) := by
        rw [hput, putF_step _ _ (by omega)]; simp
      have hu : (UInt8.ofNat (m % 128 + 128)).toNat = m % 128 + 128 := u8_of_lt (by omega)
      generalize UInt8.ofNat (m % 128 + 128) = u at *
      have HP : Hid _ := hput'
      have HF : Hid _ := hmf'
      have HX : Hid _ := hX
      clear hput' hmf' hput hmf hX
      have hs1 := from_mark wr [u] #[.int .u8 ((m : Int) % 128 + 128)] (0, 0) (by simp [B, hu])
      go_wp2_with (first
        | (at_builtin; go_must (refine wpList_append_in rfl _ _ rfl base _ _ _ rfl (hown.alloc _) _ 1 1 [u] rfl rfl hs1 (by omega) (by simp; omega) ?_))
        | fail)
      intro v1 w1 hown1 hg1
      replace hown1 : w1.ownsRow base 5 1 v1 (X.length + 1) ((X ++ [u]).map B) := by simpa using hown1
      have hb1 := hb.trans hg1.ofAlloc
      clear hg1 hs1 hown hb
      go_wp2
      go_roundw
      case rel => exact ⟨f, m / 128, pre ++ [u], by go_num, by omega, HF.out, HP.out, by simp; omega, by rw [← List.append_assoc, HX.out, List.length_append]; exact hown1, hb1⟩
      case measure => simp [intOf]; omega
    · have hu : (UInt8.ofNat m).toNat = m := u8_of_lt (by omega)
      have hput' : X ++ [UInt8.ofNat m] = out ++ put n := by rw [hput, putF_end _ _ (by omega), ← hX]; simp
      generalize UInt8.ofNat m = u at *
      have hs1 := from_mark wr [u] #[.int .u8 (m : Int)] (0, 0) (by simp [B, hu])
      have HP : Hid _ := hput'
      clear hput' hput hmf hX hu
      go_wp2_with (first
        | (at_builtin; go_must (refine wpList_append_in rfl _ _ rfl base _ _ _ rfl (hown.alloc _) _ 1 1 [u] rfl rfl hs1 (by omega) (by simp; omega) ?_))
        | fail)
      intro v1 w1 hown1 hg1
      replace hown1 : w1.ownsRow base 5 1 v1 (X.length + 1) ((X ++ [u]).map B) := by simpa using hown1
      have hb1 := hb.trans hg1.ofAlloc
      clear hg1 hs1 hown hb
      go_wp2
      go_ret
      exact ⟨_, rfl, by rw [← HP.out, List.length_append]; exact hown1, hb1⟩
end Go.Proofs.Ytneiomimjgfbpaa
namespace Go.Proofs.Ytneiomimjgfbpaa
open Go.RowKit Go.PlainAid
set_option linter.unusedVariables false
def plainW (xs : List Nat) : List UInt8 := xs.flatMap put
theorem plainW_snoc (xs : List Nat) (k x : Nat) (h : xs[k]? = some x) : plainW (xs.take (k + 1)) = plainW (xs.take k) ++ put x := by
  rw [plainW, plainW, List.take_add_one, h]
  simp
theorem plainW_len (xs : List Nat) (h : ∀ x ∈ xs, x < 9223372036854775808) : (plainW xs).length ≤ 10 * xs.length := by
  induction xs with
  | nil => simp [plainW]
  | cons a t ih =>
    have h1 := ih fun x hx => h x (List.mem_cons_of_mem _ hx)
    have h2 := (put_len a (by have := h a (List.mem_cons_self ..); omega)).2.1
    simp only [plainW, List.flatMap_cons, List.length_append, List.length_cons] at *
    omega
set_option maxRecDepth 100000 in
set_option maxHeartbeats 800000 in
theorem rplain_any (base : Nat) (v : Value) (out : List UInt8) (w : World) (hown : w.ownsRow base 5 1 v out.length (out.map B)) (hbase : base ≤ w.heap.size)
    (lb off k c : Nat) (xs : List Nat) (hk : xs.length = k) (hcell : ∀ i x, xs[i]? = some x → w.cell? ⟨lb, off + i, none⟩ = some (.int .i64 (x : Nat))) (hlb : lb < w.heap.size) (hne : v.ownBlock ≠ some lb) (hr : ∀ x ∈ xs, x < 9223372036854775808) (hl : out.length + 10 * k ≤ 900000) :
    Calls Try.prog 83 #[v, .slice (some ⟨lb, off, none⟩) k c] w fun e w' => ∃ v', e = .returned v' ∧ w'.ownsRow base 5 1 v' (out ++ plainW xs).length ((out ++ plainW xs).map B) ∧ Grew w w' v v' := by
  have H : Hid _ := And.intro hcell hr
  clear hcell hr
  go_enter Try.func83, Try.ntmps83
  go_wp2
  go_loopw [0, 5] (fun vr iv wr => ∃ i : Nat, i ≤ k ∧ iv = .int .i64 (i : Nat) ∧ wr.ownsRow base 5 1 vr (out ++ plainW (xs.take i)).length ((out ++ plainW (xs.take i)).map B) ∧ Grew w wr v vr) (fun _ iv _ => k - (intOf iv).toNat)
  case atStart => exact ⟨0, by omega, rfl, by simpa [plainW] using hown, Grew.refl _ _⟩
  case round =>
    obtain ⟨i, hi, rfl, ho, hG⟩ := hrel
    by_cases hlt : i < k
    · obtain ⟨x, hx⟩ : ∃ x, xs[i]? = some x := ⟨_, List.getElem?_eq_getElem (by omega)⟩
      have hc : wr.cell? ⟨lb, off + i, none⟩ = some (.int .i64 (x : Nat)) := (World.cell?_of_block (w := w) (hG.g.block lb hlb (fun e => hne e.symm))).trans (H.out.1 i x hx)
      have hxr := H.out.2 x (List.mem_of_getElem? hx)
      have hs := plainW_snoc xs i x hx
      have hpl := plainW_len (xs.take i) (fun y hy => H.out.2 y (List.mem_of_mem_take hy))
      have hnum := rnumber_any base x _ (out ++ plainW (xs.take i)) wr ho (by have := hG.g.size; omega) (by omega) (by rw [List.length_append]; rw [List.length_take] at hpl; omega)
      rw [List.append_assoc, ← hs] at hnum
      have HN : Hid _ := hnum
      clear hnum hs hpl hx ho
      go_wp2_with (first | (go_at_call 96; refine Calls.mono HN.out ?_; rintro e1 w1 ⟨v1, rfl, ho1, hG1⟩) | fail)
      go_roundw
      case rel => exact ⟨i + 1, by omega, by go_num, ho1, hG.trans hG1⟩
      case measure => simp [intOf]; omega
    · have e : xs.take i = xs := List.take_of_length_le (by omega)
      rw [e] at ho
      clear e
      go_wp2
      go_ret
      exact ⟨_, rfl, ho, hG⟩
end Go.Proofs.Ytneiomimjgfbpaa
namespace Go.Proofs.Ytneiomimjgfbpaa
set_option linter.unusedSimpArgs false
def inB (n lo hi : Int) : Bool := decide (lo ≤ n) && decide (n ≤ hi)
def nameB (s : List UInt8) : Bool := decide (1 ≤ s.length) && decide (s.length ≤ 16) && s.all fair
def epochB (a b : Int) : Bool := inB a 1 1099511627776 && inB b 0 15
def rightsB (a b : Int) : Bool := inB a 0 1099511627776 && inB b 0 1099511627776
def callB (a b : Int) : Bool := inB a 0 63 && inB b 1 1099511627776
def opB (k : Int) (s : List UInt8) : Bool := inB k 1 11 && nameB s
def knownB (s : List UInt8) (c r : Int) : Bool := nameB s && inB c 1 1099511627776 && inB r 0 1099511627776
def rviewB (v : View) : Bool := knownB v.name v.cap v.recaps && inB v.version 0 1099511627776 && rightsB v.down v.up && inB v.held 0 1099511627776
def rviewsFrom : List UInt8 → List View → Bool
  | _, [] => true
  | ab, v :: t => rviewB v && gt v.name ab && rviewsFrom v.name t
def rviewsB (l : List View) : Bool := decide (l.length ≤ 64) && rviewsFrom [] l
def shapeM (m : Msg) : Msg :=
  if m.kind = 1 then { Msg.zero with kind := m.kind, session := m.session, id := m.id, okind := m.okind, oname := m.oname, oa := m.oa, ob := m.ob }
  else if m.kind = 10 then { Msg.zero with kind := m.kind, views := m.views }
  else if m.kind = 2 then (if hasCap m.err then { Msg.zero with kind := m.kind, session := m.session, id := m.id, name := m.name, err := m.err, cap := m.cap, recaps := m.recaps } else { Msg.zero with kind := m.kind, session := m.session, id := m.id, name := m.name, err := m.err })
  else { Msg.zero with kind := m.kind, name := m.name, cap := m.cap, recaps := m.recaps, round := (if inB m.kind 3 7 then m.round else 0), rank := (if inB m.kind 3 7 then m.rank else 0), oround := (if m.kind = 7 then m.oround else 0), orank := (if m.kind = 7 then m.orank else 0), down := (if inB m.kind 4 6 || m.kind == 8 || m.kind == 9 then m.down else 0), up := (if inB m.kind 4 6 || m.kind == 8 || m.kind == 9 then m.up else 0), held := (if m.kind = 4 then m.held else 0) }
def alikeB (a b : Msg) : Bool :=
  a.kind == b.kind && a.name == b.name && a.cap == b.cap && a.recaps == b.recaps && (a.round == b.round && a.rank == b.rank) && (a.oround == b.oround && a.orank == b.orank) && (a.down == b.down && a.up == b.up) && a.held == b.held && (a.session == b.session && a.id == b.id) && (a.okind == b.okind && a.oname == b.oname && a.oa == b.oa && a.ob == b.ob) && a.err == b.err && a.value == b.value && a.views.length == b.views.length
def validB (m : Msg) : Bool :=
  inB m.kind 1 10 && alikeB m (shapeM m) &&
  (if m.kind = 1 then callB m.session m.id && opB m.okind m.oname
   else if m.kind = 10 then rviewsB m.views
   else if m.kind = 2 then (if hasCap m.err then callB m.session m.id && knownB m.name m.cap m.recaps else callB m.session m.id && nameB m.name && inB m.err 0 255)
   else knownB m.name m.cap m.recaps && rightsB m.down m.up && inB m.held 0 1099511627776 && (!inB m.kind 3 7 || epochB m.round m.rank) && (m.kind != 7 || epochB m.oround m.orank))
theorem num_is (lo hi : Nat) (x : Int) : ((num lo hi).wr x).isSome = inB x lo hi := by
  simp only [num, inB]; split <;> simp_all
theorem map_is {α β : Type} (c : Codec α) (f : α → β) (g : β → α) (ok : β → Bool) (y : β) : ((c.map f g ok).wr y).isSome = (ok y && (c.wr (g y)).isSome) := by
  simp only [Codec.map]; cases ok y <;> simp
theorem bind_is {α β : Type} (c : Codec α) (d : α → Codec β) (x : α) (y : β) : ((c.bind d).wr (x, y)).isSome = ((c.wr x).isSome && ((d x).wr y).isSome) := by
  simp only [Codec.bind]; cases c.wr x <;> simp; cases (d x).wr y <;> simp
theorem pair_is {α β : Type} (c : Codec α) (d : Codec β) (x : α) (y : β) : ((pair c d).wr (x, y)).isSome = ((c.wr x).isSome && (d.wr y).isSome) := bind_is c _ x y
theorem signed_is (x : Int) (h1 : (-9223372036854775808 : Int) ≤ x) (h2 : x < 9223372036854775808) : (signed.wr x).isSome = true := by
  simp only [signed]; split <;> simp_all <;> omega
theorem gt_nil {s : List UInt8} (h : 1 ≤ s.length) : gt s [] = true := by
  cases s with
  | nil => simp at h
  | cons a t => simp [gt, Op.bytesLess]
theorem name_is (ab s : List UInt8) : ((name ab).wr s).isSome = (nameB s && gt s ab) := by
  unfold name
  rw [map_is, bind_is, num_is]
  simp only [text, Codec.guard, some', nameB, inB, Bool.true_and]
  by_cases h1 : 1 ≤ s.length
  · by_cases h2 : s.length ≤ 16
    · rw [decide_eq_true (show ((1 : Nat) : Int) ≤ (s.length : Int) by omega), decide_eq_true (show (s.length : Int) ≤ ((16 : Nat) : Int) by omega), decide_eq_true h1, decide_eq_true h2]
      rw [Bool.true_and, Bool.true_and, Bool.true_and]
      show _ = good ab s
      by_cases hx : good ab s = true
      · rw [if_pos hx, hx, if_pos (by omega)]; rfl
      · rw [if_neg hx]; simp only [Bool.not_eq_true] at hx; rw [hx]; rfl
    · rw [decide_eq_false (show ¬ (s.length : Int) ≤ ((16 : Nat) : Int) by omega), decide_eq_false h2]
      simp
  · rw [decide_eq_false (show ¬ ((1 : Nat) : Int) ≤ (s.length : Int) by omega), decide_eq_false h1]
    simp
theorem name_is0 (s : List UInt8) : ((name []).wr s).isSome = nameB s := by
  rw [name_is]
  by_cases h : 1 ≤ s.length
  · rw [gt_nil h, Bool.and_true]
  · simp only [nameB, decide_eq_false h, Bool.false_and]
theorem caps_is (a b : Int) : (caps.wr (a, b)).isSome = (inB a 1 1099511627776 && inB b 0 1099511627776) := by rw [caps, pair_is, num_is, num_is]; rfl
theorem epoch_is (a b : Int) : (epoch.wr (a, b)).isSome = epochB a b := by rw [epoch, pair_is, num_is, num_is]; rfl
theorem rights_is (a b : Int) : (rights.wr (a, b)).isSome = rightsB a b := by rw [rights, pair_is, num_is, num_is]; rfl
theorem call_is (a b : Int) : (call.wr (a, b)).isSome = callB a b := by rw [call, pair_is, num_is, num_is]; rfl
theorem held_is (a : Int) : (held.wr a).isSome = inB a 0 1099511627776 := num_is _ _ _
theorem errno_is (a : Int) : (errno.wr a).isSome = inB a 0 255 := num_is _ _ _
theorem op_is (k a b : Int) (s : List UInt8) (h1 : (-9223372036854775808 : Int) ≤ a) (h2 : a < 9223372036854775808) (h3 : (-9223372036854775808 : Int) ≤ b) (h4 : b < 9223372036854775808) : (op.wr (k, s, a, b)).isSome = opB k s := by
  rw [op, pair_is, pair_is, pair_is, num_is, name_is0, signed_is a h1 h2, signed_is b h3 h4, Bool.and_true, Bool.and_true]; rfl
theorem view_is (ab : List UInt8) (v : View) : ((view ab).wr v).isSome = (rviewB v && gt v.name ab) := by
  rw [view, map_is, pair_is, pair_is, pair_is, pair_is, name_is, caps_is, rights_is, held_is, num_is]
  simp only [rviewB, knownB, Bool.true_and]
  rw [show ((0 : Nat) : Int) = 0 from rfl, show ((maxN : Nat) : Int) = 1099511627776 from rfl]
  cases nameB v.name <;> cases gt v.name ab <;> simp [Bool.and_assoc]
theorem viewList_is : ∀ (l : List View) (ab : List UInt8), ((viewList l.length ab).wr l).isSome = rviewsFrom ab l := by
  intro l
  induction l with
  | nil => intro ab; rfl
  | cons v t ih =>
    intro ab
    rw [List.length_cons, viewList, map_is, bind_is, view_is, ih]
    rfl
theorem views_is (l : List View) : (views.wr l).isSome = rviewsB l := by
  rw [views, map_is, bind_is, num_is, Int.toNat_natCast, viewList_is]
  simp only [inB, rviewsB, Bool.true_and]
  congr 1
  by_cases h : l.length ≤ 64
  · rw [decide_eq_true h, decide_eq_true (show ((0 : Nat) : Int) ≤ (l.length : Int) by omega), decide_eq_true (show (l.length : Int) ≤ ((64 : Nat) : Int) by omega)]; rfl
  · rw [decide_eq_false h, decide_eq_false (show ¬ (l.length : Int) ≤ ((64 : Nat) : Int) by omega), Bool.and_false]
theorem len_nil (l : List View) : (l.length == 0) = l.isEmpty := by cases l <;> rfl
theorem inB_of {n lo hi : Int} (h1 : lo ≤ n) (h2 : n ≤ hi) : inB n lo hi = true := by simp [inB, h1, h2]
theorem validB_is (m : Msg) (h1 : (-9223372036854775808 : Int) ≤ m.oa) (h2 : m.oa < 9223372036854775808) (h3 : (-9223372036854775808 : Int) ≤ m.ob) (h4 : m.ob < 9223372036854775808) : (message.wr m).isSome = validB m := by
  rw [message, map_is, bind_is, num_is, Bool.true_and]
  unfold validB
  by_cases hk : 1 ≤ m.kind ∧ m.kind ≤ 10
  · have hr0 : rightsB 0 0 = true := by decide
    have hh0 : inB 0 0 1099511627776 = true := by decide
    have hop := fun k s => op_is k m.oa m.ob s h1 h2 h3 h4
    rw [show inB m.kind ((1 : Nat) : Int) ((10 : Nat) : Int) = true from inB_of hk.1 hk.2, show inB m.kind 1 10 = true from inB_of hk.1 hk.2, Bool.true_and, Bool.true_and]
    obtain ⟨kind, name, cap, recaps, round, rank, oround, orank, down, up, held, session, id, okind, oname, oa, ob, err, value, views⟩ := m
    simp only at *
    rcases (show kind = 1 ∨ kind = 2 ∨ kind = 3 ∨ kind = 4 ∨ kind = 5 ∨ kind = 6 ∨ kind = 7 ∨ kind = 8 ∨ kind = 9 ∨ kind = 10 from by omega) with rfl | rfl | rfl | rfl | rfl | rfl | rfl | rfl | rfl | rfl
    · simp [bodyC, askC, map_is, pair_is, call_is, hop, name_is0, caps_is, epoch_is, rights_is, held_is, views_is, parts, alikeB, shapeM, noCall, noOp, noName, noErr, noCap, noEpoch, noRights, noHeld, noOver, noViews, Msg.zero, ← len_nil, knownB]
      rw [Bool.eq_iff_iff]; simp only [Bool.and_eq_true, beq_iff_eq]; grind
    · cases hc : hasCap err
      · simp [bodyC, toldC, map_is, pair_is, bind_is, call_is, name_is0, errno_is, capsIf, hc, Codec.unit, parts, alikeB, shapeM, noCall, noOp, noName, noErr, noCap, noEpoch, noRights, noHeld, noOver, noViews, Msg.zero, ← len_nil, knownB]
        rw [Bool.eq_iff_iff]; simp only [Bool.and_eq_true, beq_iff_eq]; grind
      · have he : inB err 0 255 = true := by
          simp only [hasCap, Bool.or_eq_true, beq_iff_eq] at hc
          rcases hc with rfl | rfl <;> decide
        simp [bodyC, toldC, map_is, pair_is, bind_is, call_is, name_is0, errno_is, caps_is, he, capsIf, hc, parts, alikeB, shapeM, noCall, noOp, noName, noErr, noCap, noEpoch, noRights, noHeld, noOver, noViews, Msg.zero, ← len_nil, knownB]
        rw [Bool.eq_iff_iff]; simp only [Bool.and_eq_true, beq_iff_eq]; grind
    · simp [bodyC, markC, map_is, pair_is, call_is, hop, name_is0, caps_is, epoch_is, rights_is, held_is, parts, alikeB, shapeM, noCall, noOp, noName, noErr, noCap, noEpoch, noRights, noHeld, noOver, noViews, Msg.zero, ← len_nil, knownB, show inB 3 3 7 = true from by decide, show inB 3 4 6 = false from by decide]
      rw [Bool.eq_iff_iff]; simp only [Bool.and_eq_true, beq_iff_eq]; grind
    · simp [bodyC, yieldC, map_is, pair_is, call_is, hop, name_is0, caps_is, epoch_is, rights_is, held_is, parts, alikeB, shapeM, noCall, noOp, noName, noErr, noCap, noEpoch, noRights, noHeld, noOver, noViews, Msg.zero, ← len_nil, knownB, show inB 4 3 7 = true from by decide, show inB 4 4 6 = true from by decide]
      rw [Bool.eq_iff_iff]; simp only [Bool.and_eq_true, beq_iff_eq]; grind
    · simp [bodyC, grantC, map_is, pair_is, call_is, hop, name_is0, caps_is, epoch_is, rights_is, held_is, parts, alikeB, shapeM, noCall, noOp, noName, noErr, noCap, noEpoch, noRights, noHeld, noOver, noViews, Msg.zero, ← len_nil, knownB, show inB 5 3 7 = true from by decide, show inB 5 4 6 = true from by decide]
      rw [Bool.eq_iff_iff]; simp only [Bool.and_eq_true, beq_iff_eq]; grind
    · simp [bodyC, grantC, map_is, pair_is, call_is, hop, name_is0, caps_is, epoch_is, rights_is, held_is, parts, alikeB, shapeM, noCall, noOp, noName, noErr, noCap, noEpoch, noRights, noHeld, noOver, noViews, Msg.zero, ← len_nil, knownB, show inB 6 3 7 = true from by decide, show inB 6 4 6 = true from by decide]
      rw [Bool.eq_iff_iff]; simp only [Bool.and_eq_true, beq_iff_eq]; grind
    · simp [bodyC, overC, map_is, pair_is, call_is, hop, name_is0, caps_is, epoch_is, rights_is, held_is, parts, alikeB, shapeM, noCall, noOp, noName, noErr, noCap, noEpoch, noRights, noHeld, noOver, noViews, Msg.zero, ← len_nil, knownB, show inB 7 3 7 = true from by decide, show inB 7 4 6 = false from by decide]
      rw [Bool.eq_iff_iff]; simp only [Bool.and_eq_true, beq_iff_eq]; grind
    · simp [bodyC, wantC, map_is, pair_is, call_is, hop, name_is0, caps_is, epoch_is, rights_is, held_is, parts, alikeB, shapeM, noCall, noOp, noName, noErr, noCap, noEpoch, noRights, noHeld, noOver, noViews, Msg.zero, ← len_nil, knownB, show inB 8 3 7 = false from by decide, show inB 8 4 6 = false from by decide]
      rw [Bool.eq_iff_iff]; simp only [Bool.and_eq_true, beq_iff_eq]; grind
    · simp [bodyC, wantC, map_is, pair_is, call_is, hop, name_is0, caps_is, epoch_is, rights_is, held_is, parts, alikeB, shapeM, noCall, noOp, noName, noErr, noCap, noEpoch, noRights, noHeld, noOver, noViews, Msg.zero, ← len_nil, knownB, show inB 9 3 7 = false from by decide, show inB 9 4 6 = false from by decide]
      rw [Bool.eq_iff_iff]; simp only [Bool.and_eq_true, beq_iff_eq]; grind
    · simp [bodyC, digestC, map_is, pair_is, call_is, hop, name_is0, caps_is, epoch_is, rights_is, held_is, views_is, parts, alikeB, shapeM, noCall, noOp, noName, noErr, noCap, noEpoch, noRights, noHeld, noOver, noViews, Msg.zero, ← len_nil, knownB]
      rw [Bool.eq_iff_iff]; simp only [Bool.and_eq_true, beq_iff_eq]; grind
  · have : inB m.kind 1 10 = false := by simp only [inB]; rw [Bool.and_eq_false_iff, decide_eq_false_iff_not, decide_eq_false_iff_not]; omega
    rw [this, show inB m.kind ((1 : Nat) : Int) ((10 : Nat) : Int) = false from this]
    rfl
end Go.Proofs.Ytneiomimjgfbpaa
namespace Go.Proofs.Ytneiomimjgfbpaa
open Go.RowKit Go.PlainAid
set_option linter.unusedSimpArgs false
theorem rwithin_any (n lo hi : Int) (w : World) : Calls Try.prog 47 #[.int .i64 n, .int .i64 lo, .int .i64 hi] w (fun e w' => e = .returned (.bool (inB n lo hi)) ∧ w' = w) := by
  go_enter Try.func47, Try.ntmps47
  by_cases h1 : lo ≤ n
  · go_wp2
    go_ret
    exact ⟨ret_bool (by simp [inB, h1]), rfl⟩
  · go_wp2
    go_ret
    exact ⟨ret_bool (by simp only [inB]; rw [decide_eq_false (by omega)]; rfl), rfl⟩
set_option maxHeartbeats 800000 in
theorem rname_any (s : List UInt8) (w : World) (hl : s.length ≤ 140737488355328) :
    Calls Try.prog 53 #[Str s] w fun e w' => e = .returned (.bool (nameB s)) ∧ w' = w := by
  unfold Str
  go_enter Try.func53, Try.ntmps53
  by_cases ha : s.length < 1
  · have hf : nameB s = false := by simp only [nameB]; rw [decide_eq_false (by omega)]; rfl
    rw [hf]
    clear hf
    go_wp2
    go_ret
    exact ⟨rfl, rfl⟩
  by_cases hb : 16 < s.length
  · have hf : nameB s = false := by simp only [nameB]; rw [decide_eq_false (show ¬ s.length ≤ 16 by omega)]; simp
    rw [hf]
    clear hf
    go_wp2
    go_ret
    exact ⟨rfl, rfl⟩
  have hN : nameB s = s.all fair := by simp only [nameB]; rw [decide_eq_true (by omega), decide_eq_true (by omega)]; rfl
  rw [hN]
  clear hN
  go_wp2
  go_loop [3] (fun i => ∃ k : Nat, k ≤ s.length ∧ i = .int .i64 k ∧ (s.take k).all fair = true) (fun i => s.length - (intOf i).toNat)
  case atStart => exact ⟨0, by omega, rfl, by simp⟩
  case round =>
    obtain ⟨k, hk, rfl, hall⟩ := hrel
    by_cases hlt : k < s.length
    · obtain ⟨u, hu⟩ : ∃ u, s[k]? = some u := ⟨s[k]'hlt, List.getElem?_eq_getElem hlt⟩
      have hs := all_take_succ s fair k u hu
      rw [hall, Bool.true_and] at hs
      have hub := byte_lt u
      have hget : ∀ h, ((⟨s.toArray⟩ : ByteArray)[k]'h) = u := by
        intro h
        rw [List.getElem?_eq_getElem hlt] at hu
        rw [← Option.some.inj hu]
        rfl
      have hbad : fair u = false → s.all fair = false := by
        intro h
        rw [List.all_eq_false]
        exact ⟨u, List.mem_of_getElem? hu, by rw [h]; simp⟩
      have HB : Hid _ := hbad
      have HS : Hid _ := hs
      clear hbad hs hu hall
      by_cases h1 : u.toNat < 33
      · have hf : fair u = false := by simp [fair]; omega
        go_wp2
        go_ret
        exact ⟨ret_bool (HB.out hf).symm, rfl⟩
      · by_cases h2 : 126 < u.toNat
        · have hf : fair u = false := by simp [fair]; omega
          go_wp2
          go_ret
          exact ⟨ret_bool (HB.out hf).symm, rfl⟩
        · have hf : fair u = true := by simp [fair]; omega
          go_wp2
          go_round
          case rel => exact ⟨k + 1, by omega, by go_num, by rw [HS.out]; exact hf⟩
          case measure => simp [intOf]; omega
    · have hk' : s.take k = s := List.take_of_length_le (by omega)
      rw [hk'] at hall
      have HG : Hid _ := hall
      clear hall hk'
      go_wp2
      go_ret
      exact ⟨ret_bool HG.out.symm, rfl⟩
theorem rknown_any (s : List UInt8) (c r : Int) (w : World) (hl : s.length ≤ 140737488355328) :
    Calls Try.prog 54 #[Str s, .int .i64 c, .int .i64 r] w fun e w' => e = .returned (.bool (knownB s c r)) ∧ w' = w := by
  have h1 := rname_any s w hl
  have h2 := rwithin_any c 1 1099511627776 w
  have h3 := rwithin_any r 0 1099511627776 w
  unfold knownB
  generalize nameB s = a at *
  generalize inB c 1 1099511627776 = b at *
  generalize inB r 0 1099511627776 = d at *
  cases a <;> cases b
  all_goals
    go_enter Try.func54, Try.ntmps54
    go_wp2_with (first | (go_at_call 53; refine h1.mono ?_; rintro e1 w1 ⟨rfl, rfl⟩) | (go_at_call 47; first | (with_reducible refine h2.mono ?_; rintro e2 w2 ⟨rfl, rfl⟩) | (refine h3.mono ?_; rintro e2 w2 ⟨rfl, rfl⟩)))
    go_ret
    exact ⟨rfl, rfl⟩
theorem rrights_any (a b : Int) (w : World) : Calls Try.prog 55 #[.agg #[.int .i64 a, .int .i64 b]] w fun e w' => e = .returned (.bool (rightsB a b)) ∧ Below w.heap.size w w' := by
  have h1 := fun w => rwithin_any a 0 1099511627776 w
  have h2 := fun w => rwithin_any b 0 1099511627776 w
  unfold rightsB
  generalize inB a 0 1099511627776 = p at *
  generalize inB b 0 1099511627776 = q at *
  have H : Hid _ := And.intro h1 h2
  clear h1 h2
  cases p
  all_goals
    go_enter Try.func55, Try.ntmps55
    go_wp2_with (go_at_call 47; first | (with_reducible refine (H.out.1 _).mono ?_; rintro e2 w2 ⟨rfl, rfl⟩) | (refine (H.out.2 _).mono ?_; rintro e2 w2 ⟨rfl, rfl⟩))
    go_ret
    exact ⟨rfl, by go_grown⟩
theorem repoch_any (a b : Int) (w : World) : Calls Try.prog 56 #[.agg #[.int .i64 a, .int .i64 b]] w fun e w' => e = .returned (.bool (epochB a b)) ∧ Below w.heap.size w w' := by
  have h1 := fun w => rwithin_any a 1 1099511627776 w
  have h2 := fun w => rwithin_any b 0 15 w
  unfold epochB
  generalize inB a 1 1099511627776 = p at *
  generalize inB b 0 15 = q at *
  have H : Hid _ := And.intro h1 h2
  clear h1 h2
  cases p
  all_goals
    go_enter Try.func56, Try.ntmps56
    go_wp2_with (go_at_call 47; first | (with_reducible refine (H.out.1 _).mono ?_; rintro e2 w2 ⟨rfl, rfl⟩) | (refine (H.out.2 _).mono ?_; rintro e2 w2 ⟨rfl, rfl⟩))
    go_ret
    exact ⟨rfl, by go_grown⟩
theorem rcall_any (a b : Int) (w : World) : Calls Try.prog 50 #[.agg #[.int .i64 a, .int .i64 b]] w fun e w' => e = .returned (.bool (callB a b)) ∧ Below w.heap.size w w' := by
  have h1 := fun w => rwithin_any a 0 63 w
  have h2 := fun w => rwithin_any b 1 1099511627776 w
  unfold callB
  generalize inB a 0 63 = p at *
  generalize inB b 1 1099511627776 = q at *
  have H : Hid _ := And.intro h1 h2
  clear h1 h2
  cases p
  all_goals
    go_enter Try.func50, Try.ntmps50
    go_wp2_with (go_at_call 47; first | (with_reducible refine (H.out.1 _).mono ?_; rintro e2 w2 ⟨rfl, rfl⟩) | (refine (H.out.2 _).mono ?_; rintro e2 w2 ⟨rfl, rfl⟩))
    go_ret
    exact ⟨rfl, by go_grown⟩
theorem rop_any (k a b : Int) (s : List UInt8) (w : World) (hl : s.length ≤ 140737488355328) : Calls Try.prog 51 #[.agg #[.int .i64 k, Str s, .int .i64 a, .int .i64 b]] w fun e w' => e = .returned (.bool (opB k s)) ∧ Below w.heap.size w w' := by
  have h1 := fun w => rwithin_any k 1 11 w
  have h2 := fun w => rname_any s w hl
  unfold opB
  generalize inB k 1 11 = p at *
  generalize nameB s = q at *
  have H : Hid _ := And.intro h1 h2
  clear h1 h2
  unfold Str at *
  cases p
  all_goals
    go_enter Try.func51, Try.ntmps51
    go_wp2_with (first | (go_at_call 47; refine (H.out.1 _).mono ?_; rintro e2 w2 ⟨rfl, rfl⟩) | (go_at_call 53; refine (H.out.2 _).mono ?_; rintro e2 w2 ⟨rfl, rfl⟩))
    go_ret
    exact ⟨rfl, by go_grown⟩
end Go.Proofs.Ytneiomimjgfbpaa
namespace Go.Proofs.Ytneiomimjgfbpaa
open Go.RowKit Go.PlainAid
set_option linter.unusedSimpArgs false
set_option linter.unusedVariables false
set_option maxRecDepth 100000 in
set_option maxHeartbeats 800000 in
theorem rsigned_any (base : Nat) (v : Value) (out : List UInt8) (w : World) (x : Int) (hown : w.ownsRow base 5 1 v out.length (out.map B)) (hbase : base ≤ w.heap.size) (hx1 : (-9223372036854775808 : Int) ≤ x) (hx2 : x < 9223372036854775808) (hl : out.length ≤ 1000000) :
    Calls Try.prog 93 #[v, .int .i64 x] w fun e w' => ∃ v', e = .returned v' ∧ w'.ownsRow base 5 1 v' (out ++ put (zig x)).length ((out ++ put (zig x)).map B) ∧ Grew w w' v v' := by
  have hnum := rnumber_any base (zig x) v out w hown hbase (zig_lt x hx1 hx2) hl
  by_cases h : 0 ≤ x
  · rw [show ((zig x : Nat) : Int) = 2 * x from by unfold zig; rw [if_pos h]; omega] at hnum
    have HN : Hid _ := hnum
    clear hnum hown
    go_enter Try.func93, Try.ntmps93
    go_wp2_with (first | (go_at_call 96; refine Calls.mono HN.out ?_; rintro e1 w1 ⟨v1, rfl, ho1, hG1⟩) | fail)
    go_ret
    exact ⟨_, rfl, ho1, hG1⟩
  · rw [show ((zig x : Nat) : Int) = 2 * (-(x + 1)) + 1 from by unfold zig; rw [if_neg h]; omega] at hnum
    have HN : Hid _ := hnum
    clear hnum hown
    go_enter Try.func93, Try.ntmps93
    go_wp2_with (first | (go_at_call 96; refine Calls.mono HN.out ?_; rintro e1 w1 ⟨v1, rfl, ho1, hG1⟩) | fail)
    go_ret
    exact ⟨_, rfl, ho1, hG1⟩
end Go.Proofs.Ytneiomimjgfbpaa
