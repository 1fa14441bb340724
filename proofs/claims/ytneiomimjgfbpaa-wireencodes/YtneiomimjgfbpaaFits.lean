import Derived.Test.YtneiomimjgfbpaaJD
namespace Go.Proofs.Ytneiomimjgfbpaa
open Go.RowKit Go.PlainAid
set_option linter.unusedSimpArgs false
theorem len_zero (l : List View) : (((l.length : Nat) : Int) == 0) = l.isEmpty := by
  cases l with
  | nil => rfl
  | cons a t => simp only [List.length_cons, List.isEmpty_cons]; rw [beq_eq_false_iff_ne]; omega
theorem bare_parts (m : Msg) (has : Int) : bareB m m.views.length has = parts (bit has 1) (bit has 2) (bit has 4) (bit has 8) (bit has 16) (bit has 32) (bit has 64) (bit has 128) (bit has 256) (bit has 512) m := by
  simp only [bareB, parts, noCall, noOp, noName, noErr, noCap, noEpoch, noRights, noHeld, noOver, noViews, len_zero, Bool.and_assoc]
theorem body_is (m : Msg) (hk : 1 ≤ m.kind ∧ m.kind ≤ 10) : (bodyC m.kind).wr m = if bareB m m.views.length (hasM m) then bodyW m else none := by
  rw [bare_parts]
  rcases (show m.kind = 1 ∨ m.kind = 2 ∨ m.kind = 3 ∨ m.kind = 4 ∨ m.kind = 5 ∨ m.kind = 6 ∨ m.kind = 7 ∨ m.kind = 8 ∨ m.kind = 9 ∨ m.kind = 10 from by omega) with e | e | e | e | e | e | e | e | e | e
  · have e1 : hasM m = 3 := by simp [hasM, e, hasOf]
    have e2 : bodyW m = join (call.wr (m.session, m.id)) (op.wr (m.okind, m.oname, m.oa, m.ob)) := by simp [bodyW, e]
    rw [e1, e2]
    simp only [show bit 3 1 = true from by decide, show bit 3 2 = true from by decide, show bit 3 4 = false from by decide, show bit 3 8 = false from by decide, show bit 3 16 = false from by decide, show bit 3 32 = false from by decide, show bit 3 64 = false from by decide, show bit 3 128 = false from by decide, show bit 3 256 = false from by decide, show bit 3 512 = false from by decide]
    have e3 : bodyC m.kind = askC := by simp [bodyC, e]
    rw [e3]
    show (if ((m.kind == 1) && parts true true false false false false false false false false m) = true then _ else none) = _
    rw [e]
    rfl
  · have e3 : bodyC m.kind = toldC := by simp [bodyC, e]
    rw [e3]
    have e4 : toldC.wr m = if ((m.kind == 2) && parts true false true true true false false false false false m) = true then join (call.wr (m.session, m.id)) (join ((name []).wr m.name) (match errno.wr m.err with
      | none => none
      | some p => match (capsIf m.err).wr (m.cap, m.recaps) with
        | none => none
        | some q => some (p ++ q))) else none := rfl
    rw [e4, e]
    cases hc : hasCap m.err
    · have e1 : hasM m = 13 := by simp [hasM, e, hc]
      have e2 : bodyW m = join (call.wr (m.session, m.id)) (join ((name []).wr m.name) (errno.wr m.err)) := by simp [bodyW, e, hc]
      have e5 : (capsIf m.err).wr (m.cap, m.recaps) = if (m.cap == 0 && m.recaps == 0) = true then some [] else none := by simp only [capsIf, hc]; rfl
      rw [e1, e2, e5]
      simp only [show bit 13 1 = true from by decide, show bit 13 2 = false from by decide, show bit 13 4 = true from by decide, show bit 13 8 = true from by decide, show bit 13 16 = false from by decide, show bit 13 32 = false from by decide, show bit 13 64 = false from by decide, show bit 13 128 = false from by decide, show bit 13 256 = false from by decide, show bit 13 512 = false from by decide]
      have e6 : ((2 : Int) == 2) = true := rfl
      rw [e6, Bool.true_and]
      cases hz : (m.cap == 0 && m.recaps == 0)
      · have e7 : parts true false true true false false false false false false m = false := by simp [parts, noCap, hz]
        rw [e7]
        simp only [Bool.false_eq_true, if_false]
        cases errno.wr m.err <;> cases (name []).wr m.name <;> cases call.wr (m.session, m.id) <;> simp [join]
      · have e7 : parts true false true true false false false false false false m = parts true false true true true false false false false false m := by simp [parts, noCap, hz]
        rw [e7]
        simp only [if_true]
        cases errno.wr m.err <;> simp
    · have e1 : hasM m = 29 := by simp [hasM, e, hc]
      have e2 : bodyW m = join (call.wr (m.session, m.id)) (join ((name []).wr m.name) (join (errno.wr m.err) (caps.wr (m.cap, m.recaps)))) := by simp [bodyW, e, hc]
      have e5 : capsIf m.err = caps := by simp [capsIf, hc]
      rw [e1, e2, e5]
      simp only [show bit 29 1 = true from by decide, show bit 29 2 = false from by decide, show bit 29 4 = true from by decide, show bit 29 8 = true from by decide, show bit 29 16 = true from by decide, show bit 29 32 = false from by decide, show bit 29 64 = false from by decide, show bit 29 128 = false from by decide, show bit 29 256 = false from by decide, show bit 29 512 = false from by decide]
      rfl
  · have e1 : hasM m = 52 := by simp [hasM, e, hasOf]
    have e2 : bodyW m = join ((name []).wr m.name) (join (caps.wr (m.cap, m.recaps)) (epoch.wr (m.round, m.rank))) := by simp [bodyW, e]
    rw [e1, e2]
    simp only [show bit 52 1 = false from by decide, show bit 52 2 = false from by decide, show bit 52 4 = true from by decide, show bit 52 8 = false from by decide, show bit 52 16 = true from by decide, show bit 52 32 = true from by decide, show bit 52 64 = false from by decide, show bit 52 128 = false from by decide, show bit 52 256 = false from by decide, show bit 52 512 = false from by decide]
    have e3 : bodyC m.kind = markC := by simp [bodyC, e]
    rw [e3]
    show (if ((m.kind == 3) && parts false false true false true true false false false false m) = true then _ else none) = _
    rw [e]
    rfl
  · have e1 : hasM m = 244 := by simp [hasM, e, hasOf]
    have e2 : bodyW m = join ((name []).wr m.name) (join (caps.wr (m.cap, m.recaps)) (join (epoch.wr (m.round, m.rank)) (join (rights.wr (m.down, m.up)) (held.wr m.held)))) := by simp [bodyW, e]
    rw [e1, e2]
    simp only [show bit 244 1 = false from by decide, show bit 244 2 = false from by decide, show bit 244 4 = true from by decide, show bit 244 8 = false from by decide, show bit 244 16 = true from by decide, show bit 244 32 = true from by decide, show bit 244 64 = true from by decide, show bit 244 128 = true from by decide, show bit 244 256 = false from by decide, show bit 244 512 = false from by decide]
    have e3 : bodyC m.kind = yieldC := by simp [bodyC, e]
    rw [e3]
    show (if ((m.kind == 4) && parts false false true false true true true true false false m) = true then _ else none) = _
    rw [e]
    rfl
  · have e1 : hasM m = 116 := by simp [hasM, e, hasOf]
    have e2 : bodyW m = join ((name []).wr m.name) (join (caps.wr (m.cap, m.recaps)) (join (epoch.wr (m.round, m.rank)) (rights.wr (m.down, m.up)))) := by simp [bodyW, e]
    rw [e1, e2]
    simp only [show bit 116 1 = false from by decide, show bit 116 2 = false from by decide, show bit 116 4 = true from by decide, show bit 116 8 = false from by decide, show bit 116 16 = true from by decide, show bit 116 32 = true from by decide, show bit 116 64 = true from by decide, show bit 116 128 = false from by decide, show bit 116 256 = false from by decide, show bit 116 512 = false from by decide]
    have e3 : bodyC m.kind = grantC 5 := by simp [bodyC, e]
    rw [e3]
    show (if ((m.kind == 5) && parts false false true false true true true false false false m) = true then _ else none) = _
    rw [e]
    rfl
  · have e1 : hasM m = 116 := by simp [hasM, e, hasOf]
    have e2 : bodyW m = join ((name []).wr m.name) (join (caps.wr (m.cap, m.recaps)) (join (epoch.wr (m.round, m.rank)) (rights.wr (m.down, m.up)))) := by simp [bodyW, e]
    rw [e1, e2]
    simp only [show bit 116 1 = false from by decide, show bit 116 2 = false from by decide, show bit 116 4 = true from by decide, show bit 116 8 = false from by decide, show bit 116 16 = true from by decide, show bit 116 32 = true from by decide, show bit 116 64 = true from by decide, show bit 116 128 = false from by decide, show bit 116 256 = false from by decide, show bit 116 512 = false from by decide]
    have e3 : bodyC m.kind = grantC 6 := by simp [bodyC, e]
    rw [e3]
    show (if ((m.kind == 6) && parts false false true false true true true false false false m) = true then _ else none) = _
    rw [e]
    rfl
  · have e1 : hasM m = 308 := by simp [hasM, e, hasOf]
    have e2 : bodyW m = join ((name []).wr m.name) (join (caps.wr (m.cap, m.recaps)) (join (epoch.wr (m.round, m.rank)) (epoch.wr (m.oround, m.orank)))) := by simp [bodyW, e]
    rw [e1, e2]
    simp only [show bit 308 1 = false from by decide, show bit 308 2 = false from by decide, show bit 308 4 = true from by decide, show bit 308 8 = false from by decide, show bit 308 16 = true from by decide, show bit 308 32 = true from by decide, show bit 308 64 = false from by decide, show bit 308 128 = false from by decide, show bit 308 256 = true from by decide, show bit 308 512 = false from by decide]
    have e3 : bodyC m.kind = overC := by simp [bodyC, e]
    rw [e3]
    show (if ((m.kind == 7) && parts false false true false true true false false true false m) = true then _ else none) = _
    rw [e]
    rfl
  · have e1 : hasM m = 84 := by simp [hasM, e, hasOf]
    have e2 : bodyW m = join ((name []).wr m.name) (join (caps.wr (m.cap, m.recaps)) (rights.wr (m.down, m.up))) := by simp [bodyW, e]
    rw [e1, e2]
    simp only [show bit 84 1 = false from by decide, show bit 84 2 = false from by decide, show bit 84 4 = true from by decide, show bit 84 8 = false from by decide, show bit 84 16 = true from by decide, show bit 84 32 = false from by decide, show bit 84 64 = true from by decide, show bit 84 128 = false from by decide, show bit 84 256 = false from by decide, show bit 84 512 = false from by decide]
    have e3 : bodyC m.kind = wantC 8 := by simp [bodyC, e]
    rw [e3]
    show (if ((m.kind == 8) && parts false false true false true false true false false false m) = true then _ else none) = _
    rw [e]
    rfl
  · have e1 : hasM m = 84 := by simp [hasM, e, hasOf]
    have e2 : bodyW m = join ((name []).wr m.name) (join (caps.wr (m.cap, m.recaps)) (rights.wr (m.down, m.up))) := by simp [bodyW, e]
    rw [e1, e2]
    simp only [show bit 84 1 = false from by decide, show bit 84 2 = false from by decide, show bit 84 4 = true from by decide, show bit 84 8 = false from by decide, show bit 84 16 = true from by decide, show bit 84 32 = false from by decide, show bit 84 64 = true from by decide, show bit 84 128 = false from by decide, show bit 84 256 = false from by decide, show bit 84 512 = false from by decide]
    have e3 : bodyC m.kind = wantC 9 := by simp [bodyC, e]
    rw [e3]
    show (if ((m.kind == 9) && parts false false true false true false true false false false m) = true then _ else none) = _
    rw [e]
    rfl
  · have e1 : hasM m = 512 := by simp [hasM, e, hasOf]
    have e2 : bodyW m = views.wr m.views := by simp [bodyW, e]
    rw [e1, e2]
    simp only [show bit 512 1 = false from by decide, show bit 512 2 = false from by decide, show bit 512 4 = false from by decide, show bit 512 8 = false from by decide, show bit 512 16 = false from by decide, show bit 512 32 = false from by decide, show bit 512 64 = false from by decide, show bit 512 128 = false from by decide, show bit 512 256 = false from by decide, show bit 512 512 = true from by decide]
    have e3 : bodyC m.kind = digestC := by simp [bodyC, e]
    rw [e3]
    show (if ((m.kind == 10) && parts false false false false false false false false false true m) = true then _ else none) = _
    rw [e]
    rfl
theorem enc_is (m : Msg) : message.wr m = encM m := by
  have h0 : message.wr m = match (num 1 10).wr m.kind with
      | none => none
      | some p => match (bodyC m.kind).wr m with
        | none => none
        | some q => some (p ++ q) := rfl
  have h1 : fieldsW m = join ((num 1 10).wr m.kind) (bodyW m) := rfl
  rw [h0]
  unfold encM
  rw [h1]
  by_cases hk : 1 ≤ m.kind ∧ m.kind ≤ 10
  · rw [body_is m hk]
    cases (num 1 10).wr m.kind with
    | none => rfl
    | some p =>
      cases hb : bareB m m.views.length (hasM m)
      · cases bodyW m <;> rfl
      · cases bodyW m <;> rfl
  · have hn : (num 1 10).wr m.kind = none := by
      simp only [num]; rw [if_neg (by simp only [Bool.and_eq_true, decide_eq_true_eq]; omega)]
    rw [hn]
    rfl
end Go.Proofs.Ytneiomimjgfbpaa
namespace Go.Proofs.Ytneiomimjgfbpaa
open Go.RowKit Go.PlainAid
set_option linter.unusedSimpArgs false
theorem join_some {a b : Option (List UInt8)} {c : List UInt8} (h : join a b = some c) : ∃ p q, a = some p ∧ b = some q := by
  cases a with
  | none => cases h
  | some p => cases b with
    | none => cases h
    | some q => exact ⟨p, q, rfl, rfl⟩
theorem num_some {lo hi : Nat} {x : Int} {bs : List UInt8} (h : (num lo hi).wr x = some bs) : (lo : Int) ≤ x ∧ x ≤ hi := by
  simp only [num] at h
  split at h
  · rename_i h1
    simp only [Bool.and_eq_true, decide_eq_true_eq] at h1
    exact h1
  · cases h
theorem signed_some {x : Int} {bs : List UInt8} (h : signed.wr x = some bs) : (-9223372036854775808 : Int) ≤ x ∧ x < 9223372036854775808 := by
  simp only [signed] at h
  split at h
  · rename_i h1
    simp only [Bool.and_eq_true, decide_eq_true_eq] at h1
    exact h1
  · cases h
theorem name_some {ab s bs : List UInt8} (h : (name ab).wr s = some bs) : s.length ≤ 16 := by
  have e : (name ab).wr s = match (num 1 16).wr (s.length : Int) with
    | none => none
    | some p => match (text ab ((s.length : Int)).toNat).wr s with
      | none => none
      | some q => some (p ++ q) := rfl
  rw [e] at h
  cases hn : (num 1 16).wr (s.length : Int) with
  | none => rw [hn] at h; cases h
  | some p => have := num_some hn; omega
theorem op_some {x : Int × List UInt8 × Int × Int} {bs : List UInt8} (h : op.wr x = some bs) : x.2.1.length ≤ 16 ∧ (-9223372036854775808 : Int) ≤ x.2.2.1 ∧ x.2.2.1 < 9223372036854775808 ∧ (-9223372036854775808 : Int) ≤ x.2.2.2 ∧ x.2.2.2 < 9223372036854775808 := by
  have e : op.wr x = join ((num 1 11).wr x.1) (join ((name []).wr x.2.1) (join (signed.wr x.2.2.1) (signed.wr x.2.2.2))) := rfl
  rw [e] at h
  obtain ⟨_, _, _, h⟩ := join_some h
  obtain ⟨_, _, h1, h⟩ := join_some h
  obtain ⟨_, _, h2, h3⟩ := join_some h
  exact ⟨name_some h1, (signed_some h2).1, (signed_some h2).2, (signed_some h3).1, (signed_some h3).2⟩
theorem view_some {ab : List UInt8} {v : View} {bs : List UInt8} (h : (view ab).wr v = some bs) : v.name.length ≤ 16 := by
  have e : ∃ r, (view ab).wr v = join ((name ab).wr v.name) r := ⟨_, rfl⟩
  obtain ⟨r, e⟩ := e
  rw [e] at h
  obtain ⟨_, _, h1, _⟩ := join_some h
  exact name_some h1
theorem viewList_some : ∀ (n : Nat) (ab : List UInt8) (l : List View) (bs : List UInt8), (viewList n ab).wr l = some bs → l.length = n ∧ ∀ x ∈ l, x.name.length ≤ 16
  | 0, ab, l, bs, h => by
    simp only [viewList, Codec.map] at h
    cases l with
    | nil => exact ⟨rfl, fun x hx => by cases hx⟩
    | cons a t => simp at h
  | n + 1, ab, l, bs, h => by
    cases l with
    | nil => simp [viewList, Codec.map] at h
    | cons a t =>
      have e : (viewList (n + 1) ab).wr (a :: t) = match (view ab).wr a with
        | none => none
        | some p => match (viewList n a.name).wr t with
          | none => none
          | some q => some (p ++ q) := rfl
      rw [e] at h
      cases h1 : (view ab).wr a with
      | none => rw [h1] at h; cases h
      | some p =>
        cases h2 : (viewList n a.name).wr t with
        | none => rw [h1, h2] at h; cases h
        | some q =>
          obtain ⟨i1, i2⟩ := viewList_some n a.name t q h2
          refine ⟨by simp [i1], fun x hx => ?_⟩
          rcases List.mem_cons.1 hx with rfl | hx
          · exact view_some h1
          · exact i2 x hx
theorem views_some {l : List View} {bs : List UInt8} (h : views.wr l = some bs) : l.length ≤ 64 ∧ ∀ x ∈ l, x.name.length ≤ 16 := by
  have e : views.wr l = match (num 0 64).wr (l.length : Int) with
    | none => none
    | some p => match (viewList ((l.length : Int)).toNat []).wr l with
      | none => none
      | some q => some (p ++ q) := rfl
  rw [e] at h
  cases hn : (num 0 64).wr (l.length : Int) with
  | none => rw [hn] at h; cases h
  | some p =>
    cases h2 : (viewList ((l.length : Int)).toNat []).wr l with
    | none => rw [hn, h2] at h; cases h
    | some q => exact ⟨by have := num_some hn; omega, (viewList_some _ _ _ _ h2).2⟩
theorem parts_out {c o n e k p r h v w : Bool} {m : Msg} (hp : parts c o n e k p r h v w m = true) : (n = false → m.name = []) ∧ (o = false → m.oname = [] ∧ m.oa = 0 ∧ m.ob = 0) ∧ (w = false → m.views = []) := by
  simp only [parts, noName, noOp, noViews, Bool.and_eq_true, Bool.or_eq_true, beq_iff_eq, List.isEmpty_iff] at hp
  refine ⟨fun hn => ?_, fun ho => ?_, fun hw => ?_⟩ <;> simp_all
theorem fit_of {m : Msg} {bs : List UInt8} (h : message.wr m = some bs) : Fit m ∧ m.views.length ≤ 64 := by
  rw [enc_is] at h
  unfold encM at h
  cases hf : fieldsW m with
  | none => rw [hf] at h; cases h
  | some q =>
    rw [hf] at h
    by_cases hb : bareB m m.views.length (hasM m) = true
    · rw [bare_parts] at hb
      obtain ⟨pn, po, pw⟩ := parts_out hb
      unfold fieldsW at hf
      obtain ⟨_, _, hk, hf⟩ := join_some hf
      have hk := num_some hk
      rcases (show m.kind = 1 ∨ m.kind = 2 ∨ m.kind = 3 ∨ m.kind = 4 ∨ m.kind = 5 ∨ m.kind = 6 ∨ m.kind = 7 ∨ m.kind = 8 ∨ m.kind = 9 ∨ m.kind = 10 from by omega) with e | e | e | e | e | e | e | e | e | e
      · have e2 : bodyW m = join (call.wr (m.session, m.id)) (op.wr (m.okind, m.oname, m.oa, m.ob)) := by simp [bodyW, e]
        rw [e2] at hf
        obtain ⟨_, _, _, h2⟩ := join_some hf
        obtain ⟨o1, o2, o3, o4, o5⟩ := op_some h2
        have e1 : hasM m = 3 := by simp [hasM, e, hasOf]
        rw [e1] at pn po pw
        have n1 := pn (by decide)
        have n2 := pw (by decide)
        exact ⟨⟨by rw [n1]; simp, by simp only at o1; omega, o2, o3, o4, o5, by rw [n2]; simp, by rw [n2]; simp⟩, by rw [n2]; simp⟩
      · have hnm : m.name.length ≤ 16 := by
          have e2 : bodyW m = if hasCap m.err then join (call.wr (m.session, m.id)) (join ((name []).wr m.name) (join (errno.wr m.err) (caps.wr (m.cap, m.recaps)))) else join (call.wr (m.session, m.id)) (join ((name []).wr m.name) (errno.wr m.err)) := by simp [bodyW, e]
          rw [e2] at hf
          split at hf
          all_goals
            obtain ⟨_, _, _, hf⟩ := join_some hf
            obtain ⟨_, _, h2, _⟩ := join_some hf
            exact name_some h2
        have e1 : bit (hasM m) 2 = false ∧ bit (hasM m) 512 = false := by
          cases hc : hasCap m.err <;> simp only [hasM, e, hc, if_true] <;> decide
        rw [e1.1] at po
        rw [e1.2] at pw
        obtain ⟨n1, n2, n3⟩ := po rfl
        have n4 := pw rfl
        exact ⟨⟨by omega, by rw [n1]; simp, by rw [n2]; decide, by rw [n2]; decide, by rw [n3]; decide, by rw [n3]; decide, by rw [n4]; simp, by rw [n4]; simp⟩, by rw [n4]; simp⟩
      · have hnm : m.name.length ≤ 16 := by
          have e2 : ∃ r, bodyW m = join ((name []).wr m.name) r := by simp only [bodyW, e]; exact ⟨_, rfl⟩
          obtain ⟨r, e2⟩ := e2
          rw [e2] at hf
          obtain ⟨_, _, h2, _⟩ := join_some hf
          exact name_some h2
        have e1 : hasM m = 52 := by simp [hasM, e, hasOf]
        rw [e1] at pn po pw
        obtain ⟨n1, n2, n3⟩ := po (by decide)
        have n4 := pw (by decide)
        exact ⟨⟨by omega, by rw [n1]; simp, by rw [n2]; decide, by rw [n2]; decide, by rw [n3]; decide, by rw [n3]; decide, by rw [n4]; simp, by rw [n4]; simp⟩, by rw [n4]; simp⟩
      · have hnm : m.name.length ≤ 16 := by
          have e2 : ∃ r, bodyW m = join ((name []).wr m.name) r := by simp only [bodyW, e]; exact ⟨_, rfl⟩
          obtain ⟨r, e2⟩ := e2
          rw [e2] at hf
          obtain ⟨_, _, h2, _⟩ := join_some hf
          exact name_some h2
        have e1 : hasM m = 244 := by simp [hasM, e, hasOf]
        rw [e1] at pn po pw
        obtain ⟨n1, n2, n3⟩ := po (by decide)
        have n4 := pw (by decide)
        exact ⟨⟨by omega, by rw [n1]; simp, by rw [n2]; decide, by rw [n2]; decide, by rw [n3]; decide, by rw [n3]; decide, by rw [n4]; simp, by rw [n4]; simp⟩, by rw [n4]; simp⟩
      · have hnm : m.name.length ≤ 16 := by
          have e2 : ∃ r, bodyW m = join ((name []).wr m.name) r := by simp only [bodyW, e]; exact ⟨_, rfl⟩
          obtain ⟨r, e2⟩ := e2
          rw [e2] at hf
          obtain ⟨_, _, h2, _⟩ := join_some hf
          exact name_some h2
        have e1 : hasM m = 116 := by simp [hasM, e, hasOf]
        rw [e1] at pn po pw
        obtain ⟨n1, n2, n3⟩ := po (by decide)
        have n4 := pw (by decide)
        exact ⟨⟨by omega, by rw [n1]; simp, by rw [n2]; decide, by rw [n2]; decide, by rw [n3]; decide, by rw [n3]; decide, by rw [n4]; simp, by rw [n4]; simp⟩, by rw [n4]; simp⟩
      · have hnm : m.name.length ≤ 16 := by
          have e2 : ∃ r, bodyW m = join ((name []).wr m.name) r := by simp only [bodyW, e]; exact ⟨_, rfl⟩
          obtain ⟨r, e2⟩ := e2
          rw [e2] at hf
          obtain ⟨_, _, h2, _⟩ := join_some hf
          exact name_some h2
        have e1 : hasM m = 116 := by simp [hasM, e, hasOf]
        rw [e1] at pn po pw
        obtain ⟨n1, n2, n3⟩ := po (by decide)
        have n4 := pw (by decide)
        exact ⟨⟨by omega, by rw [n1]; simp, by rw [n2]; decide, by rw [n2]; decide, by rw [n3]; decide, by rw [n3]; decide, by rw [n4]; simp, by rw [n4]; simp⟩, by rw [n4]; simp⟩
      · have hnm : m.name.length ≤ 16 := by
          have e2 : ∃ r, bodyW m = join ((name []).wr m.name) r := by simp only [bodyW, e]; exact ⟨_, rfl⟩
          obtain ⟨r, e2⟩ := e2
          rw [e2] at hf
          obtain ⟨_, _, h2, _⟩ := join_some hf
          exact name_some h2
        have e1 : hasM m = 308 := by simp [hasM, e, hasOf]
        rw [e1] at pn po pw
        obtain ⟨n1, n2, n3⟩ := po (by decide)
        have n4 := pw (by decide)
        exact ⟨⟨by omega, by rw [n1]; simp, by rw [n2]; decide, by rw [n2]; decide, by rw [n3]; decide, by rw [n3]; decide, by rw [n4]; simp, by rw [n4]; simp⟩, by rw [n4]; simp⟩
      · have hnm : m.name.length ≤ 16 := by
          have e2 : ∃ r, bodyW m = join ((name []).wr m.name) r := by simp only [bodyW, e]; exact ⟨_, rfl⟩
          obtain ⟨r, e2⟩ := e2
          rw [e2] at hf
          obtain ⟨_, _, h2, _⟩ := join_some hf
          exact name_some h2
        have e1 : hasM m = 84 := by simp [hasM, e, hasOf]
        rw [e1] at pn po pw
        obtain ⟨n1, n2, n3⟩ := po (by decide)
        have n4 := pw (by decide)
        exact ⟨⟨by omega, by rw [n1]; simp, by rw [n2]; decide, by rw [n2]; decide, by rw [n3]; decide, by rw [n3]; decide, by rw [n4]; simp, by rw [n4]; simp⟩, by rw [n4]; simp⟩
      · have hnm : m.name.length ≤ 16 := by
          have e2 : ∃ r, bodyW m = join ((name []).wr m.name) r := by simp only [bodyW, e]; exact ⟨_, rfl⟩
          obtain ⟨r, e2⟩ := e2
          rw [e2] at hf
          obtain ⟨_, _, h2, _⟩ := join_some hf
          exact name_some h2
        have e1 : hasM m = 84 := by simp [hasM, e, hasOf]
        rw [e1] at pn po pw
        obtain ⟨n1, n2, n3⟩ := po (by decide)
        have n4 := pw (by decide)
        exact ⟨⟨by omega, by rw [n1]; simp, by rw [n2]; decide, by rw [n2]; decide, by rw [n3]; decide, by rw [n3]; decide, by rw [n4]; simp, by rw [n4]; simp⟩, by rw [n4]; simp⟩
      · have e2 : bodyW m = views.wr m.views := by simp [bodyW, e]
        rw [e2] at hf
        obtain ⟨v1, v2⟩ := views_some hf
        have e1 : hasM m = 512 := by simp [hasM, e, hasOf]
        rw [e1] at pn po
        have n4 := pn (by decide)
        obtain ⟨n1, n2, n3⟩ := po (by decide)
        exact ⟨⟨by rw [n4]; simp, by rw [n1]; simp, by rw [n2]; decide, by rw [n2]; decide, by rw [n3]; decide, by rw [n3]; decide, by omega, fun x hx => by have := v2 x hx; omega⟩, v1⟩
    · simp only [if_neg hb] at h; cases h
end Go.Proofs.Ytneiomimjgfbpaa
