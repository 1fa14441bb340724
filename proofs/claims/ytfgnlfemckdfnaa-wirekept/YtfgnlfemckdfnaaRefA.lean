import Derived.Test.YtfgnlfemckdfnaaJA
import Derived.Test.YtfgnlfemckdfnaaWMeth
namespace Go.Proofs.Ytfgnlfemckdfnaa
set_option linter.unusedSimpArgs false
def inB (n lo hi : Int) : Bool := decide (lo ≤ n) && decide (n ≤ hi)
def nameB (s : List UInt8) : Bool := decide (1 ≤ s.length) && decide (s.length ≤ 16) && s.all fair
def epochB (a b : Int) : Bool := inB a 1 1099511627776 && inB b 0 15
def rightsB (a b : Int) : Bool := inB a 0 1099511627776 && inB b 0 1099511627776
def callB (a b : Int) : Bool := inB a 0 63 && inB b 1 1099511627776
def opB (k : Int) (s : List UInt8) : Bool := inB k 1 11 && nameB s
def knownB (s : List UInt8) (c r : Int) : Bool := nameB s && inB c 1 1099511627776 && inB r 0 1099511627776
def rviewB (v : View) : Bool := knownB v.name v.cap v.recaps && inB v.version 0 1099511627776 && rightsB v.down v.up && inB v.held 0 1099511627776
def rviewsFrom : List UInt8 → List View → Bool
  | _, [] => true
  | ab, v :: t => rviewB v && gt v.name ab && rviewsFrom v.name t
def rviewsB (l : List View) : Bool := decide (l.length ≤ 64) && rviewsFrom [] l
def shapeM (m : Msg) : Msg :=
  if m.kind = 1 then { Msg.zero with kind := m.kind, session := m.session, id := m.id, okind := m.okind, oname := m.oname, oa := m.oa, ob := m.ob }
  else if m.kind = 10 then { Msg.zero with kind := m.kind, views := m.views }
  else if m.kind = 2 then (if hasCap m.err then { Msg.zero with kind := m.kind, session := m.session, id := m.id, name := m.name, err := m.err, cap := m.cap, recaps := m.recaps } else { Msg.zero with kind := m.kind, session := m.session, id := m.id, name := m.name, err := m.err })
  else { Msg.zero with kind := m.kind, name := m.name, cap := m.cap, recaps := m.recaps, round := (if inB m.kind 3 7 then m.round else 0), rank := (if inB m.kind 3 7 then m.rank else 0), oround := (if m.kind = 7 then m.oround else 0), orank := (if m.kind = 7 then m.orank else 0), down := (if inB m.kind 4 6 || m.kind == 8 || m.kind == 9 then m.down else 0), up := (if inB m.kind 4 6 || m.kind == 8 || m.kind == 9 then m.up else 0), held := (if m.kind = 4 then m.held else 0) }
def alikeB (a b : Msg) : Bool :=
  a.kind == b.kind && a.name == b.name && a.cap == b.cap && a.recaps == b.recaps && (a.round == b.round && a.rank == b.rank) && (a.oround == b.oround && a.orank == b.orank) && (a.down == b.down && a.up == b.up) && a.held == b.held && (a.session == b.session && a.id == b.id) && (a.okind == b.okind && a.oname == b.oname && a.oa == b.oa && a.ob == b.ob) && a.err == b.err && a.value == b.value && a.views.length == b.views.length
def validB (m : Msg) : Bool :=
  inB m.kind 1 10 && alikeB m (shapeM m) &&
  (if m.kind = 1 then callB m.session m.id && opB m.okind m.oname
   else if m.kind = 10 then rviewsB m.views
   else if m.kind = 2 then (if hasCap m.err then callB m.session m.id && knownB m.name m.cap m.recaps else callB m.session m.id && nameB m.name && inB m.err 0 255)
   else knownB m.name m.cap m.recaps && rightsB m.down m.up && inB m.held 0 1099511627776 && (!inB m.kind 3 7 || epochB m.round m.rank) && (m.kind != 7 || epochB m.oround m.orank))
theorem num_is (lo hi : Nat) (x : Int) : ((num lo hi).wr x).isSome = inB x lo hi := by
  simp only [num, inB]; split <;> simp_all
theorem map_is {α β : Type} (c : Codec α) (f : α → β) (g : β → α) (ok : β → Bool) (y : β) : ((c.map f g ok).wr y).isSome = (ok y && (c.wr (g y)).isSome) := by
  simp only [Codec.map]; cases ok y <;> simp
theorem bind_is {α β : Type} (c : Codec α) (d : α → Codec β) (x : α) (y : β) : ((c.bind d).wr (x, y)).isSome = ((c.wr x).isSome && ((d x).wr y).isSome) := by
  simp only [Codec.bind]; cases c.wr x <;> simp; cases (d x).wr y <;> simp
theorem pair_is {α β : Type} (c : Codec α) (d : Codec β) (x : α) (y : β) : ((pair c d).wr (x, y)).isSome = ((c.wr x).isSome && (d.wr y).isSome) := bind_is c _ x y
theorem signed_is (x : Int) (h1 : (-9223372036854775808 : Int) ≤ x) (h2 : x < 9223372036854775808) : (signed.wr x).isSome = true := by
  simp only [signed]; split <;> simp_all <;> omega
theorem gt_nil {s : List UInt8} (h : 1 ≤ s.length) : gt s [] = true := by
  cases s with
  | nil => simp at h
  | cons a t => simp [gt, Op.bytesLess]
theorem name_is (ab s : List UInt8) : ((name ab).wr s).isSome = (nameB s && gt s ab) := by
  unfold name
  rw [map_is, bind_is, num_is]
  simp only [text, Codec.guard, some', nameB, inB, Bool.true_and]
  by_cases h1 : 1 ≤ s.length
  · by_cases h2 : s.length ≤ 16
    · rw [decide_eq_true (show ((1 : Nat) : Int) ≤ (s.length : Int) by omega), decide_eq_true (show (s.length : Int) ≤ ((16 : Nat) : Int) by omega), decide_eq_true h1, decide_eq_true h2]
      rw [Bool.true_and, Bool.true_and, Bool.true_and]
      show _ = good ab s
      by_cases hx : good ab s = true
      · rw [if_pos hx, hx, if_pos (by omega)]; rfl
      · rw [if_neg hx]; simp only [Bool.not_eq_true] at hx; rw [hx]; rfl
    · rw [decide_eq_false (show ¬ (s.length : Int) ≤ ((16 : Nat) : Int) by omega), decide_eq_false h2]
      simp
  · rw [decide_eq_false (show ¬ ((1 : Nat) : Int) ≤ (s.length : Int) by omega), decide_eq_false h1]
    simp
theorem name_is0 (s : List UInt8) : ((name []).wr s).isSome = nameB s := by
  rw [name_is]
  by_cases h : 1 ≤ s.length
  · rw [gt_nil h, Bool.and_true]
  · simp only [nameB, decide_eq_false h, Bool.false_and]
theorem caps_is (a b : Int) : (caps.wr (a, b)).isSome = (inB a 1 1099511627776 && inB b 0 1099511627776) := by rw [caps, pair_is, num_is, num_is]; rfl
theorem epoch_is (a b : Int) : (epoch.wr (a, b)).isSome = epochB a b := by rw [epoch, pair_is, num_is, num_is]; rfl
theorem rights_is (a b : Int) : (rights.wr (a, b)).isSome = rightsB a b := by rw [rights, pair_is, num_is, num_is]; rfl
theorem call_is (a b : Int) : (call.wr (a, b)).isSome = callB a b := by rw [call, pair_is, num_is, num_is]; rfl
theorem held_is (a : Int) : (held.wr a).isSome = inB a 0 1099511627776 := num_is _ _ _
theorem errno_is (a : Int) : (errno.wr a).isSome = inB a 0 255 := num_is _ _ _
theorem op_is (k a b : Int) (s : List UInt8) (h1 : (-9223372036854775808 : Int) ≤ a) (h2 : a < 9223372036854775808) (h3 : (-9223372036854775808 : Int) ≤ b) (h4 : b < 9223372036854775808) : (op.wr (k, s, a, b)).isSome = opB k s := by
  rw [op, pair_is, pair_is, pair_is, num_is, name_is0, signed_is a h1 h2, signed_is b h3 h4, Bool.and_true, Bool.and_true]; rfl
theorem view_is (ab : List UInt8) (v : View) : ((view ab).wr v).isSome = (rviewB v && gt v.name ab) := by
  rw [view, map_is, pair_is, pair_is, pair_is, pair_is, name_is, caps_is, rights_is, held_is, num_is]
  simp only [rviewB, knownB, Bool.true_and]
  rw [show ((0 : Nat) : Int) = 0 from rfl, show ((maxN : Nat) : Int) = 1099511627776 from rfl]
  cases nameB v.name <;> cases gt v.name ab <;> simp [Bool.and_assoc]
theorem viewList_is : ∀ (l : List View) (ab : List UInt8), ((viewList l.length ab).wr l).isSome = rviewsFrom ab l := by
  intro l
  induction l with
  | nil => intro ab; rfl
  | cons v t ih =>
    intro ab
    rw [List.length_cons, viewList, map_is, bind_is, view_is, ih]
    rfl
theorem views_is (l : List View) : (views.wr l).isSome = rviewsB l := by
  rw [views, map_is, bind_is, num_is, Int.toNat_natCast, viewList_is]
  simp only [inB, rviewsB, Bool.true_and]
  congr 1
  by_cases h : l.length ≤ 64
  · rw [decide_eq_true h, decide_eq_true (show ((0 : Nat) : Int) ≤ (l.length : Int) by omega), decide_eq_true (show (l.length : Int) ≤ ((64 : Nat) : Int) by omega)]; rfl
  · rw [decide_eq_false h, decide_eq_false (show ¬ (l.length : Int) ≤ ((64 : Nat) : Int) by omega), Bool.and_false]
theorem len_nil (l : List View) : (l.length == 0) = l.isEmpty := by cases l <;> rfl
theorem inB_of {n lo hi : Int} (h1 : lo ≤ n) (h2 : n ≤ hi) : inB n lo hi = true := by simp [inB, h1, h2]
theorem validB_is (m : Msg) (h1 : (-9223372036854775808 : Int) ≤ m.oa) (h2 : m.oa < 9223372036854775808) (h3 : (-9223372036854775808 : Int) ≤ m.ob) (h4 : m.ob < 9223372036854775808) : (message.wr m).isSome = validB m := by
  rw [message, map_is, bind_is, num_is, Bool.true_and]
  unfold validB
  by_cases hk : 1 ≤ m.kind ∧ m.kind ≤ 10
  · have hr0 : rightsB 0 0 = true := by decide
    have hh0 : inB 0 0 1099511627776 = true := by decide
    have hop := fun k s => op_is k m.oa m.ob s h1 h2 h3 h4
    rw [show inB m.kind ((1 : Nat) : Int) ((10 : Nat) : Int) = true from inB_of hk.1 hk.2, show inB m.kind 1 10 = true from inB_of hk.1 hk.2, Bool.true_and, Bool.true_and]
    obtain ⟨kind, name, cap, recaps, round, rank, oround, orank, down, up, held, session, id, okind, oname, oa, ob, err, value, views⟩ := m
    simp only at *
    rcases (show kind = 1 ∨ kind = 2 ∨ kind = 3 ∨ kind = 4 ∨ kind = 5 ∨ kind = 6 ∨ kind = 7 ∨ kind = 8 ∨ kind = 9 ∨ kind = 10 from by omega) with rfl | rfl | rfl | rfl | rfl | rfl | rfl | rfl | rfl | rfl
    · simp [bodyC, askC, map_is, pair_is, call_is, hop, name_is0, caps_is, epoch_is, rights_is, held_is, views_is, parts, alikeB, shapeM, noCall, noOp, noName, noErr, noCap, noEpoch, noRights, noHeld, noOver, noViews, Msg.zero, ← len_nil, knownB]
      rw [Bool.eq_iff_iff]; simp only [Bool.and_eq_true, beq_iff_eq]; grind
    · cases hc : hasCap err
      · simp [bodyC, toldC, map_is, pair_is, bind_is, call_is, name_is0, errno_is, capsIf, hc, Codec.unit, parts, alikeB, shapeM, noCall, noOp, noName, noErr, noCap, noEpoch, noRights, noHeld, noOver, noViews, Msg.zero, ← len_nil, knownB]
        rw [Bool.eq_iff_iff]; simp only [Bool.and_eq_true, beq_iff_eq]; grind
      · have he : inB err 0 255 = true := by
          simp only [hasCap, Bool.or_eq_true, beq_iff_eq] at hc
          rcases hc with rfl | rfl <;> decide
        simp [bodyC, toldC, map_is, pair_is, bind_is, call_is, name_is0, errno_is, caps_is, he, capsIf, hc, parts, alikeB, shapeM, noCall, noOp, noName, noErr, noCap, noEpoch, noRights, noHeld, noOver, noViews, Msg.zero, ← len_nil, knownB]
        rw [Bool.eq_iff_iff]; simp only [Bool.and_eq_true, beq_iff_eq]; grind
    · simp [bodyC, markC, map_is, pair_is, call_is, hop, name_is0, caps_is, epoch_is, rights_is, held_is, parts, alikeB, shapeM, noCall, noOp, noName, noErr, noCap, noEpoch, noRights, noHeld, noOver, noViews, Msg.zero, ← len_nil, knownB, show inB 3 3 7 = true from by decide, show inB 3 4 6 = false from by decide]
      rw [Bool.eq_iff_iff]; simp only [Bool.and_eq_true, beq_iff_eq]; grind
    · simp [bodyC, yieldC, map_is, pair_is, call_is, hop, name_is0, caps_is, epoch_is, rights_is, held_is, parts, alikeB, shapeM, noCall, noOp, noName, noErr, noCap, noEpoch, noRights, noHeld, noOver, noViews, Msg.zero, ← len_nil, knownB, show inB 4 3 7 = true from by decide, show inB 4 4 6 = true from by decide]
      rw [Bool.eq_iff_iff]; simp only [Bool.and_eq_true, beq_iff_eq]; grind
    · simp [bodyC, grantC, map_is, pair_is, call_is, hop, name_is0, caps_is, epoch_is, rights_is, held_is, parts, alikeB, shapeM, noCall, noOp, noName, noErr, noCap, noEpoch, noRights, noHeld, noOver, noViews, Msg.zero, ← len_nil, knownB, show inB 5 3 7 = true from by decide, show inB 5 4 6 = true from by decide]
      rw [Bool.eq_iff_iff]; simp only [Bool.and_eq_true, beq_iff_eq]; grind
    · simp [bodyC, grantC, map_is, pair_is, call_is, hop, name_is0, caps_is, epoch_is, rights_is, held_is, parts, alikeB, shapeM, noCall, noOp, noName, noErr, noCap, noEpoch, noRights, noHeld, noOver, noViews, Msg.zero, ← len_nil, knownB, show inB 6 3 7 = true from by decide, show inB 6 4 6 = true from by decide]
      rw [Bool.eq_iff_iff]; simp only [Bool.and_eq_true, beq_iff_eq]; grind
    · simp [bodyC, overC, map_is, pair_is, call_is, hop, name_is0, caps_is, epoch_is, rights_is, held_is, parts, alikeB, shapeM, noCall, noOp, noName, noErr, noCap, noEpoch, noRights, noHeld, noOver, noViews, Msg.zero, ← len_nil, knownB, show inB 7 3 7 = true from by decide, show inB 7 4 6 = false from by decide]
      rw [Bool.eq_iff_iff]; simp only [Bool.and_eq_true, beq_iff_eq]; grind
    · simp [bodyC, wantC, map_is, pair_is, call_is, hop, name_is0, caps_is, epoch_is, rights_is, held_is, parts, alikeB, shapeM, noCall, noOp, noName, noErr, noCap, noEpoch, noRights, noHeld, noOver, noViews, Msg.zero, ← len_nil, knownB, show inB 8 3 7 = false from by decide, show inB 8 4 6 = false from by decide]
      rw [Bool.eq_iff_iff]; simp only [Bool.and_eq_true, beq_iff_eq]; grind
    · simp [bodyC, wantC, map_is, pair_is, call_is, hop, name_is0, caps_is, epoch_is, rights_is, held_is, parts, alikeB, shapeM, noCall, noOp, noName, noErr, noCap, noEpoch, noRights, noHeld, noOver, noViews, Msg.zero, ← len_nil, knownB, show inB 9 3 7 = false from by decide, show inB 9 4 6 = false from by decide]
      rw [Bool.eq_iff_iff]; simp only [Bool.and_eq_true, beq_iff_eq]; grind
    · simp [bodyC, digestC, map_is, pair_is, call_is, hop, name_is0, caps_is, epoch_is, rights_is, held_is, views_is, parts, alikeB, shapeM, noCall, noOp, noName, noErr, noCap, noEpoch, noRights, noHeld, noOver, noViews, Msg.zero, ← len_nil, knownB]
      rw [Bool.eq_iff_iff]; simp only [Bool.and_eq_true, beq_iff_eq]; grind
  · have : inB m.kind 1 10 = false := by simp only [inB]; rw [Bool.and_eq_false_iff, decide_eq_false_iff_not, decide_eq_false_iff_not]; omega
    rw [this, show inB m.kind ((1 : Nat) : Int) ((10 : Nat) : Int) = false from this]
    rfl
end Go.Proofs.Ytfgnlfemckdfnaa
namespace Go.Proofs.Ytfgnlfemckdfnaa
open Go.RowKit Go.PlainAid
set_option linter.unusedSimpArgs false
theorem rwithin_any (n lo hi : Int) (w : World) : Calls Try.prog 46 #[.int .i64 n, .int .i64 lo, .int .i64 hi] w (fun e w' => e = .returned (.bool (inB n lo hi)) ∧ w' = w) := by
  go_enter Try.func46, Try.ntmps46
  by_cases h1 : lo ≤ n
  · go_wp2
    go_ret
    exact ⟨ret_bool (by simp [inB, h1]), rfl⟩
  · go_wp2
    go_ret
    exact ⟨ret_bool (by simp only [inB]; rw [decide_eq_false (by omega)]; rfl), rfl⟩
set_option maxHeartbeats 800000 in
theorem rname_any (s : List UInt8) (w : World) (hl : s.length ≤ 140737488355328) :
    Calls Try.prog 52 #[Str s] w fun e w' => e = .returned (.bool (nameB s)) ∧ w' = w := by
  unfold Str
  go_enter Try.func52, Try.ntmps52
  by_cases ha : s.length < 1
  · have hf : nameB s = false := by simp only [nameB]; rw [decide_eq_false (by omega)]; rfl
    rw [hf]
    clear hf
    go_wp2
    go_ret
    exact ⟨rfl, rfl⟩
  by_cases hb : 16 < s.length
  · have hf : nameB s = false := by simp only [nameB]; rw [decide_eq_false (show ¬ s.length ≤ 16 by omega)]; simp
    rw [hf]
    clear hf
    go_wp2
    go_ret
    exact ⟨rfl, rfl⟩
  have hN : nameB s = s.all fair := by simp only [nameB]; rw [decide_eq_true (by omega), decide_eq_true (by omega)]; rfl
  rw [hN]
  clear hN
  go_wp2
  go_loop [3] (fun i => ∃ k : Nat, k ≤ s.length ∧ i = .int .i64 k ∧ (s.take k).all fair = true) (fun i => s.length - (intOf i).toNat)
  case atStart => exact ⟨0, by omega, rfl, by simp⟩
  case round =>
    obtain ⟨k, hk, rfl, hall⟩ := hrel
    by_cases hlt : k < s.length
    · obtain ⟨u, hu⟩ : ∃ u, s[k]? = some u := ⟨s[k]'hlt, List.getElem?_eq_getElem hlt⟩
      have hs := all_take_succ s fair k u hu
      rw [hall, Bool.true_and] at hs
      have hub := byte_lt u
      have hget : ∀ h, ((⟨s.toArray⟩ : ByteArray)[k]'h) = u := by
        intro h
        rw [List.getElem?_eq_getElem hlt] at hu
        rw [← Option.some.inj hu]
        rfl
      have hbad : fair u = false → s.all fair = false := by
        intro h
        rw [List.all_eq_false]
        exact ⟨u, List.mem_of_getElem? hu, by rw [h]; simp⟩
      have HB : Hid _ := hbad
      have HS : Hid _ := hs
      clear hbad hs hu hall
      by_cases h1 : u.toNat < 33
      · have hf : fair u = false := by simp [fair]; omega
        go_wp2
        go_ret
        exact ⟨ret_bool (HB.out hf).symm, rfl⟩
      · by_cases h2 : 126 < u.toNat
        · have hf : fair u = false := by simp [fair]; omega
          go_wp2
          go_ret
          exact ⟨ret_bool (HB.out hf).symm, rfl⟩
        · have hf : fair u = true := by simp [fair]; omega
          go_wp2
          go_round
          case rel => exact ⟨k + 1, by omega, by go_num, by rw [HS.out]; exact hf⟩
          case measure => simp [intOf]; omega
    · have hk' : s.take k = s := List.take_of_length_le (by omega)
      rw [hk'] at hall
      have HG : Hid _ := hall
      clear hall hk'
      go_wp2
      go_ret
      exact ⟨ret_bool HG.out.symm, rfl⟩
theorem rknown_any (s : List UInt8) (c r : Int) (w : World) (hl : s.length ≤ 140737488355328) :
    Calls Try.prog 53 #[Str s, .int .i64 c, .int .i64 r] w fun e w' => e = .returned (.bool (knownB s c r)) ∧ w' = w := by
  have h1 := rname_any s w hl
  have h2 := rwithin_any c 1 1099511627776 w
  have h3 := rwithin_any r 0 1099511627776 w
  unfold knownB
  generalize nameB s = a at *
  generalize inB c 1 1099511627776 = b at *
  generalize inB r 0 1099511627776 = d at *
  cases a <;> cases b
  all_goals
    go_enter Try.func53, Try.ntmps53
    go_wp2_with (first | (go_at_call 52; refine h1.mono ?_; rintro e1 w1 ⟨rfl, rfl⟩) | (go_at_call 46; first | (with_reducible refine h2.mono ?_; rintro e2 w2 ⟨rfl, rfl⟩) | (refine h3.mono ?_; rintro e2 w2 ⟨rfl, rfl⟩)))
    go_ret
    exact ⟨rfl, rfl⟩
theorem rrights_any (a b : Int) (w : World) : Calls Try.prog 54 #[.agg #[.int .i64 a, .int .i64 b]] w fun e w' => e = .returned (.bool (rightsB a b)) ∧ Below w.heap.size w w' := by
  have h1 := fun w => rwithin_any a 0 1099511627776 w
  have h2 := fun w => rwithin_any b 0 1099511627776 w
  unfold rightsB
  generalize inB a 0 1099511627776 = p at *
  generalize inB b 0 1099511627776 = q at *
  have H : Hid _ := And.intro h1 h2
  clear h1 h2
  cases p
  all_goals
    go_enter Try.func54, Try.ntmps54
    go_wp2_with (go_at_call 46; first | (with_reducible refine (H.out.1 _).mono ?_; rintro e2 w2 ⟨rfl, rfl⟩) | (refine (H.out.2 _).mono ?_; rintro e2 w2 ⟨rfl, rfl⟩))
    go_ret
    exact ⟨rfl, by go_grown⟩
theorem repoch_any (a b : Int) (w : World) : Calls Try.prog 55 #[.agg #[.int .i64 a, .int .i64 b]] w fun e w' => e = .returned (.bool (epochB a b)) ∧ Below w.heap.size w w' := by
  have h1 := fun w => rwithin_any a 1 1099511627776 w
  have h2 := fun w => rwithin_any b 0 15 w
  unfold epochB
  generalize inB a 1 1099511627776 = p at *
  generalize inB b 0 15 = q at *
  have H : Hid _ := And.intro h1 h2
  clear h1 h2
  cases p
  all_goals
    go_enter Try.func55, Try.ntmps55
    go_wp2_with (go_at_call 46; first | (with_reducible refine (H.out.1 _).mono ?_; rintro e2 w2 ⟨rfl, rfl⟩) | (refine (H.out.2 _).mono ?_; rintro e2 w2 ⟨rfl, rfl⟩))
    go_ret
    exact ⟨rfl, by go_grown⟩
theorem rcall_any (a b : Int) (w : World) : Calls Try.prog 49 #[.agg #[.int .i64 a, .int .i64 b]] w fun e w' => e = .returned (.bool (callB a b)) ∧ Below w.heap.size w w' := by
  have h1 := fun w => rwithin_any a 0 63 w
  have h2 := fun w => rwithin_any b 1 1099511627776 w
  unfold callB
  generalize inB a 0 63 = p at *
  generalize inB b 1 1099511627776 = q at *
  have H : Hid _ := And.intro h1 h2
  clear h1 h2
  cases p
  all_goals
    go_enter Try.func49, Try.ntmps49
    go_wp2_with (go_at_call 46; first | (with_reducible refine (H.out.1 _).mono ?_; rintro e2 w2 ⟨rfl, rfl⟩) | (refine (H.out.2 _).mono ?_; rintro e2 w2 ⟨rfl, rfl⟩))
    go_ret
    exact ⟨rfl, by go_grown⟩
theorem rop_any (k a b : Int) (s : List UInt8) (w : World) (hl : s.length ≤ 140737488355328) : Calls Try.prog 50 #[.agg #[.int .i64 k, Str s, .int .i64 a, .int .i64 b]] w fun e w' => e = .returned (.bool (opB k s)) ∧ Below w.heap.size w w' := by
  have h1 := fun w => rwithin_any k 1 11 w
  have h2 := fun w => rname_any s w hl
  unfold opB
  generalize inB k 1 11 = p at *
  generalize nameB s = q at *
  have H : Hid _ := And.intro h1 h2
  clear h1 h2
  unfold Str at *
  cases p
  all_goals
    go_enter Try.func50, Try.ntmps50
    go_wp2_with (first | (go_at_call 46; refine (H.out.1 _).mono ?_; rintro e2 w2 ⟨rfl, rfl⟩) | (go_at_call 52; refine (H.out.2 _).mono ?_; rintro e2 w2 ⟨rfl, rfl⟩))
    go_ret
    exact ⟨rfl, by go_grown⟩
end Go.Proofs.Ytfgnlfemckdfnaa
