import Derived.Test.YtfgnlfemckdfnaaJF
import Derived.Test.YtfgnlfemckdfnaaJG
namespace Go.Proofs.Ytfgnlfemckdfnaa
open Go.RowKit Go.PlainAid
set_option linter.unusedSimpArgs false
theorem len_zero (l : List View) : (((l.length : Nat) : Int) == 0) = l.isEmpty := by
  cases l with
  | nil => rfl
  | cons a t => simp only [List.length_cons, List.isEmpty_cons]; rw [beq_eq_false_iff_ne]; omega
theorem bare_parts (m : Msg) (has : Int) : bareB m m.views.length has = parts (bit has 1) (bit has 2) (bit has 4) (bit has 8) (bit has 16) (bit has 32) (bit has 64) (bit has 128) (bit has 256) (bit has 512) m := by
  simp only [bareB, parts, noCall, noOp, noName, noErr, noCap, noEpoch, noRights, noHeld, noOver, noViews, len_zero, Bool.and_assoc]
theorem body_is (m : Msg) (hk : 1 ≤ m.kind ∧ m.kind ≤ 10) : (bodyC m.kind).wr m = if bareB m m.views.length (hasM m) then bodyW m else none := by
  rw [bare_parts]
  rcases (show m.kind = 1 ∨ m.kind = 2 ∨ m.kind = 3 ∨ m.kind = 4 ∨ m.kind = 5 ∨ m.kind = 6 ∨ m.kind = 7 ∨ m.kind = 8 ∨ m.kind = 9 ∨ m.kind = 10 from by omega) with e | e | e | e | e | e | e | e | e | e
  · have e1 : hasM m = 3 := by simp [hasM, e, hasOf]
    have e2 : bodyW m = join (call.wr (m.session, m.id)) (op.wr (m.okind, m.oname, m.oa, m.ob)) := by simp [bodyW, e]
    rw [e1, e2]
    simp only [show bit 3 1 = true from by decide, show bit 3 2 = true from by decide, show bit 3 4 = false from by decide, show bit 3 8 = false from by decide, show bit 3 16 = false from by decide, show bit 3 32 = false from by decide, show bit 3 64 = false from by decide, show bit 3 128 = false from by decide, show bit 3 256 = false from by decide, show bit 3 512 = false from by decide]
    have e3 : bodyC m.kind = askC := by simp [bodyC, e]
    rw [e3]
    show (if ((m.kind == 1) && parts true true false false false false false false false false m) = true then _ else none) = _
    rw [e]
    rfl
  · have e3 : bodyC m.kind = toldC := by simp [bodyC, e]
    rw [e3]
    have e4 : toldC.wr m = if ((m.kind == 2) && parts true false true true true false false false false false m) = true then join (call.wr (m.session, m.id)) (join ((name []).wr m.name) (match errno.wr m.err with
      | none => none
      | some p => match (capsIf m.err).wr (m.cap, m.recaps) with
        | none => none
        | some q => some (p ++ q))) else none := rfl
    rw [e4, e]
    cases hc : hasCap m.err
    · have e1 : hasM m = 13 := by simp [hasM, e, hc]
      have e2 : bodyW m = join (call.wr (m.session, m.id)) (join ((name []).wr m.name) (errno.wr m.err)) := by simp [bodyW, e, hc]
      have e5 : (capsIf m.err).wr (m.cap, m.recaps) = if (m.cap == 0 && m.recaps == 0) = true then some [] else none := by simp only [capsIf, hc]; rfl
      rw [e1, e2, e5]
      simp only [show bit 13 1 = true from by decide, show bit 13 2 = false from by decide, show bit 13 4 = true from by decide, show bit 13 8 = true from by decide, show bit 13 16 = false from by decide, show bit 13 32 = false from by decide, show bit 13 64 = false from by decide, show bit 13 128 = false from by decide, show bit 13 256 = false from by decide, show bit 13 512 = false from by decide]
      have e6 : ((2 : Int) == 2) = true := rfl
      rw [e6, Bool.true_and]
      cases hz : (m.cap == 0 && m.recaps == 0)
      · have e7 : parts true false true true false false false false false false m = false := by simp [parts, noCap, hz]
        rw [e7]
        simp only [Bool.false_eq_true, if_false]
        cases errno.wr m.err <;> cases (name []).wr m.name <;> cases call.wr (m.session, m.id) <;> simp [join]
      · have e7 : parts true false true true false false false false false false m = parts true false true true true false false false false false m := by simp [parts, noCap, hz]
        rw [e7]
        simp only [if_true]
        cases errno.wr m.err <;> simp
    · have e1 : hasM m = 29 := by simp [hasM, e, hc]
      have e2 : bodyW m = join (call.wr (m.session, m.id)) (join ((name []).wr m.name) (join (errno.wr m.err) (caps.wr (m.cap, m.recaps)))) := by simp [bodyW, e, hc]
      have e5 : capsIf m.err = caps := by simp [capsIf, hc]
      rw [e1, e2, e5]
      simp only [show bit 29 1 = true from by decide, show bit 29 2 = false from by decide, show bit 29 4 = true from by decide, show bit 29 8 = true from by decide, show bit 29 16 = true from by decide, show bit 29 32 = false from by decide, show bit 29 64 = false from by decide, show bit 29 128 = false from by decide, show bit 29 256 = false from by decide, show bit 29 512 = false from by decide]
      rfl
  · have e1 : hasM m = 52 := by simp [hasM, e, hasOf]
    have e2 : bodyW m = join ((name []).wr m.name) (join (caps.wr (m.cap, m.recaps)) (epoch.wr (m.round, m.rank))) := by simp [bodyW, e]
    rw [e1, e2]
    simp only [show bit 52 1 = false from by decide, show bit 52 2 = false from by decide, show bit 52 4 = true from by decide, show bit 52 8 = false from by decide, show bit 52 16 = true from by decide, show bit 52 32 = true from by decide, show bit 52 64 = false from by decide, show bit 52 128 = false from by decide, show bit 52 256 = false from by decide, show bit 52 512 = false from by decide]
    have e3 : bodyC m.kind = markC := by simp [bodyC, e]
    rw [e3]
    show (if ((m.kind == 3) && parts false false true false true true false false false false m) = true then _ else none) = _
    rw [e]
    rfl
  · have e1 : hasM m = 244 := by simp [hasM, e, hasOf]
    have e2 : bodyW m = join ((name []).wr m.name) (join (caps.wr (m.cap, m.recaps)) (join (epoch.wr (m.round, m.rank)) (join (rights.wr (m.down, m.up)) (held.wr m.held)))) := by simp [bodyW, e]
    rw [e1, e2]
    simp only [show bit 244 1 = false from by decide, show bit 244 2 = false from by decide, show bit 244 4 = true from by decide, show bit 244 8 = false from by decide, show bit 244 16 = true from by decide, show bit 244 32 = true from by decide, show bit 244 64 = true from by decide, show bit 244 128 = true from by decide, show bit 244 256 = false from by decide, show bit 244 512 = false from by decide]
    have e3 : bodyC m.kind = yieldC := by simp [bodyC, e]
    rw [e3]
    show (if ((m.kind == 4) && parts false false true false true true true true false false m) = true then _ else none) = _
    rw [e]
    rfl
  · have e1 : hasM m = 116 := by simp [hasM, e, hasOf]
    have e2 : bodyW m = join ((name []).wr m.name) (join (caps.wr (m.cap, m.recaps)) (join (epoch.wr (m.round, m.rank)) (rights.wr (m.down, m.up)))) := by simp [bodyW, e]
    rw [e1, e2]
    simp only [show bit 116 1 = false from by decide, show bit 116 2 = false from by decide, show bit 116 4 = true from by decide, show bit 116 8 = false from by decide, show bit 116 16 = true from by decide, show bit 116 32 = true from by decide, show bit 116 64 = true from by decide, show bit 116 128 = false from by decide, show bit 116 256 = false from by decide, show bit 116 512 = false from by decide]
    have e3 : bodyC m.kind = grantC 5 := by simp [bodyC, e]
    rw [e3]
    show (if ((m.kind == 5) && parts false false true false true true true false false false m) = true then _ else none) = _
    rw [e]
    rfl
  · have e1 : hasM m = 116 := by simp [hasM, e, hasOf]
    have e2 : bodyW m = join ((name []).wr m.name) (join (caps.wr (m.cap, m.recaps)) (join (epoch.wr (m.round, m.rank)) (rights.wr (m.down, m.up)))) := by simp [bodyW, e]
    rw [e1, e2]
    simp only [show bit 116 1 = false from by decide, show bit 116 2 = false from by decide, show bit 116 4 = true from by decide, show bit 116 8 = false from by decide, show bit 116 16 = true from by decide, show bit 116 32 = true from by decide, show bit 116 64 = true from by decide, show bit 116 128 = false from by decide, show bit 116 256 = false from by decide, show bit 116 512 = false from by decide]
    have e3 : bodyC m.kind = grantC 6 := by simp [bodyC, e]
    rw [e3]
    show (if ((m.kind == 6) && parts false false true false true true true false false false m) = true then _ else none) = _
    rw [e]
    rfl
  · have e1 : hasM m = 308 := by simp [hasM, e, hasOf]
    have e2 : bodyW m = join ((name []).wr m.name) (join (caps.wr (m.cap, m.recaps)) (join (epoch.wr (m.round, m.rank)) (epoch.wr (m.oround, m.orank)))) := by simp [bodyW, e]
    rw [e1, e2]
    simp only [show bit 308 1 = false from by decide, show bit 308 2 = false from by decide, show bit 308 4 = true from by decide, show bit 308 8 = false from by decide, show bit 308 16 = true from by decide, show bit 308 32 = true from by decide, show bit 308 64 = false from by decide, show bit 308 128 = false from by decide, show bit 308 256 = true from by decide, show bit 308 512 = false from by decide]
    have e3 : bodyC m.kind = overC := by simp [bodyC, e]
    rw [e3]
    show (if ((m.kind == 7) && parts false false true false true true false false true false m) = true then _ else none) = _
    rw [e]
    rfl
  · have e1 : hasM m = 84 := by simp [hasM, e, hasOf]
    have e2 : bodyW m = join ((name []).wr m.name) (join (caps.wr (m.cap, m.recaps)) (rights.wr (m.down, m.up))) := by simp [bodyW, e]
    rw [e1, e2]
    simp only [show bit 84 1 = false from by decide, show bit 84 2 = false from by decide, show bit 84 4 = true from by decide, show bit 84 8 = false from by decide, show bit 84 16 = true from by decide, show bit 84 32 = false from by decide, show bit 84 64 = true from by decide, show bit 84 128 = false from by decide, show bit 84 256 = false from by decide, show bit 84 512 = false from by decide]
    have e3 : bodyC m.kind = wantC 8 := by simp [bodyC, e]
    rw [e3]
    show (if ((m.kind == 8) && parts false false true false true false true false false false m) = true then _ else none) = _
    rw [e]
    rfl
  · have e1 : hasM m = 84 := by simp [hasM, e, hasOf]
    have e2 : bodyW m = join ((name []).wr m.name) (join (caps.wr (m.cap, m.recaps)) (rights.wr (m.down, m.up))) := by simp [bodyW, e]
    rw [e1, e2]
    simp only [show bit 84 1 = false from by decide, show bit 84 2 = false from by decide, show bit 84 4 = true from by decide, show bit 84 8 = false from by decide, show bit 84 16 = true from by decide, show bit 84 32 = false from by decide, show bit 84 64 = true from by decide, show bit 84 128 = false from by decide, show bit 84 256 = false from by decide, show bit 84 512 = false from by decide]
    have e3 : bodyC m.kind = wantC 9 := by simp [bodyC, e]
    rw [e3]
    show (if ((m.kind == 9) && parts false false true false true false true false false false m) = true then _ else none) = _
    rw [e]
    rfl
  · have e1 : hasM m = 512 := by simp [hasM, e, hasOf]
    have e2 : bodyW m = views.wr m.views := by simp [bodyW, e]
    rw [e1, e2]
    simp only [show bit 512 1 = false from by decide, show bit 512 2 = false from by decide, show bit 512 4 = false from by decide, show bit 512 8 = false from by decide, show bit 512 16 = false from by decide, show bit 512 32 = false from by decide, show bit 512 64 = false from by decide, show bit 512 128 = false from by decide, show bit 512 256 = false from by decide, show bit 512 512 = true from by decide]
    have e3 : bodyC m.kind = digestC := by simp [bodyC, e]
    rw [e3]
    show (if ((m.kind == 10) && parts false false false false false false false false false true m) = true then _ else none) = _
    rw [e]
    rfl
theorem enc_is (m : Msg) : message.wr m = encM m := by
  have h0 : message.wr m = match (num 1 10).wr m.kind with
      | none => none
      | some p => match (bodyC m.kind).wr m with
        | none => none
        | some q => some (p ++ q) := rfl
  have h1 : fieldsW m = join ((num 1 10).wr m.kind) (bodyW m) := rfl
  rw [h0]
  unfold encM
  rw [h1]
  by_cases hk : 1 ≤ m.kind ∧ m.kind ≤ 10
  · rw [body_is m hk]
    cases (num 1 10).wr m.kind with
    | none => rfl
    | some p =>
      cases hb : bareB m m.views.length (hasM m)
      · cases bodyW m <;> rfl
      · cases bodyW m <;> rfl
  · have hn : (num 1 10).wr m.kind = none := by
      simp only [num]; rw [if_neg (by simp only [Bool.and_eq_true, decide_eq_true_eq]; omega)]
    rw [hn]
    rfl
end Go.Proofs.Ytfgnlfemckdfnaa
namespace Go.Proofs.Ytfgnlfemckdfnaa
open Go.RowKit Go.PlainAid
set_option linter.unusedSimpArgs false
theorem join_some {a b : Option (List UInt8)} {c : List UInt8} (h : join a b = some c) : ∃ p q, a = some p ∧ b = some q := by
  cases a with
  | none => cases h
  | some p => cases b with
    | none => cases h
    | some q => exact ⟨p, q, rfl, rfl⟩
theorem num_some {lo hi : Nat} {x : Int} {bs : List UInt8} (h : (num lo hi).wr x = some bs) : (lo : Int) ≤ x ∧ x ≤ hi := by
  simp only [num] at h
  split at h
  · rename_i h1
    simp only [Bool.and_eq_true, decide_eq_true_eq] at h1
    exact h1
  · cases h
theorem signed_some {x : Int} {bs : List UInt8} (h : signed.wr x = some bs) : (-9223372036854775808 : Int) ≤ x ∧ x < 9223372036854775808 := by
  simp only [signed] at h
  split at h
  · rename_i h1
    simp only [Bool.and_eq_true, decide_eq_true_eq] at h1
    exact h1
  · cases h
theorem name_some {ab s bs : List UInt8} (h : (name ab).wr s = some bs) : s.length ≤ 16 := by
  have e : (name ab).wr s = match (num 1 16).wr (s.length : Int) with
    | none => none
    | some p => match (text ab ((s.length : Int)).toNat).wr s with
      | none => none
      | some q => some (p ++ q) := rfl
  rw [e] at h
  cases hn : (num 1 16).wr (s.length : Int) with
  | none => rw [hn] at h; cases h
  | some p => have := num_some hn; omega
theorem op_some {x : Int × List UInt8 × Int × Int} {bs : List UInt8} (h : op.wr x = some bs) : x.2.1.length ≤ 16 ∧ (-9223372036854775808 : Int) ≤ x.2.2.1 ∧ x.2.2.1 < 9223372036854775808 ∧ (-9223372036854775808 : Int) ≤ x.2.2.2 ∧ x.2.2.2 < 9223372036854775808 := by
  have e : op.wr x = join ((num 1 11).wr x.1) (join ((name []).wr x.2.1) (join (signed.wr x.2.2.1) (signed.wr x.2.2.2))) := rfl
  rw [e] at h
  obtain ⟨_, _, _, h⟩ := join_some h
  obtain ⟨_, _, h1, h⟩ := join_some h
  obtain ⟨_, _, h2, h3⟩ := join_some h
  exact ⟨name_some h1, (signed_some h2).1, (signed_some h2).2, (signed_some h3).1, (signed_some h3).2⟩
theorem view_some {ab : List UInt8} {v : View} {bs : List UInt8} (h : (view ab).wr v = some bs) : v.name.length ≤ 16 := by
  have e : ∃ r, (view ab).wr v = join ((name ab).wr v.name) r := ⟨_, rfl⟩
  obtain ⟨r, e⟩ := e
  rw [e] at h
  obtain ⟨_, _, h1, _⟩ := join_some h
  exact name_some h1
theorem viewList_some : ∀ (n : Nat) (ab : List UInt8) (l : List View) (bs : List UInt8), (viewList n ab).wr l = some bs → l.length = n ∧ ∀ x ∈ l, x.name.length ≤ 16
  | 0, ab, l, bs, h => by
    simp only [viewList, Codec.map] at h
    cases l with
    | nil => exact ⟨rfl, fun x hx => by cases hx⟩
    | cons a t => simp at h
  | n + 1, ab, l, bs, h => by
    cases l with
    | nil => simp [viewList, Codec.map] at h
    | cons a t =>
      have e : (viewList (n + 1) ab).wr (a :: t) = match (view ab).wr a with
        | none => none
        | some p => match (viewList n a.name).wr t with
          | none => none
          | some q => some (p ++ q) := rfl
      rw [e] at h
      cases h1 : (view ab).wr a with
      | none => rw [h1] at h; cases h
      | some p =>
        cases h2 : (viewList n a.name).wr t with
        | none => rw [h1, h2] at h; cases h
        | some q =>
          obtain ⟨i1, i2⟩ := viewList_some n a.name t q h2
          refine ⟨by simp [i1], fun x hx => ?_⟩
          rcases List.mem_cons.1 hx with rfl | hx
          · exact view_some h1
          · exact i2 x hx
theorem views_some {l : List View} {bs : List UInt8} (h : views.wr l = some bs) : l.length ≤ 64 ∧ ∀ x ∈ l, x.name.length ≤ 16 := by
  have e : views.wr l = match (num 0 64).wr (l.length : Int) with
    | none => none
    | some p => match (viewList ((l.length : Int)).toNat []).wr l with
      | none => none
      | some q => some (p ++ q) := rfl
  rw [e] at h
  cases hn : (num 0 64).wr (l.length : Int) with
  | none => rw [hn] at h; cases h
  | some p =>
    cases h2 : (viewList ((l.length : Int)).toNat []).wr l with
    | none => rw [hn, h2] at h; cases h
    | some q => exact ⟨by have := num_some hn; omega, (viewList_some _ _ _ _ h2).2⟩
theorem parts_out {c o n e k p r h v w : Bool} {m : Msg} (hp : parts c o n e k p r h v w m = true) : (n = false → m.name = []) ∧ (o = false → m.oname = [] ∧ m.oa = 0 ∧ m.ob = 0) ∧ (w = false → m.views = []) := by
  simp only [parts, noName, noOp, noViews, Bool.and_eq_true, Bool.or_eq_true, beq_iff_eq, List.isEmpty_iff] at hp
  refine ⟨fun hn => ?_, fun ho => ?_, fun hw => ?_⟩ <;> simp_all
theorem fit_of {m : Msg} {bs : List UInt8} (h : message.wr m = some bs) : Fit m ∧ m.views.length ≤ 64 := by
  rw [enc_is] at h
  unfold encM at h
  cases hf : fieldsW m with
  | none => rw [hf] at h; cases h
  | some q =>
    rw [hf] at h
    by_cases hb : bareB m m.views.length (hasM m) = true
    · rw [bare_parts] at hb
      obtain ⟨pn, po, pw⟩ := parts_out hb
      unfold fieldsW at hf
      obtain ⟨_, _, hk, hf⟩ := join_some hf
      have hk := num_some hk
      rcases (show m.kind = 1 ∨ m.kind = 2 ∨ m.kind = 3 ∨ m.kind = 4 ∨ m.kind = 5 ∨ m.kind = 6 ∨ m.kind = 7 ∨ m.kind = 8 ∨ m.kind = 9 ∨ m.kind = 10 from by omega) with e | e | e | e | e | e | e | e | e | e
      · have e2 : bodyW m = join (call.wr (m.session, m.id)) (op.wr (m.okind, m.oname, m.oa, m.ob)) := by simp [bodyW, e]
        rw [e2] at hf
        obtain ⟨_, _, _, h2⟩ := join_some hf
        obtain ⟨o1, o2, o3, o4, o5⟩ := op_some h2
        have e1 : hasM m = 3 := by simp [hasM, e, hasOf]
        rw [e1] at pn po pw
        have n1 := pn (by decide)
        have n2 := pw (by decide)
        exact ⟨⟨by rw [n1]; simp, by simp only at o1; omega, o2, o3, o4, o5, by rw [n2]; simp, by rw [n2]; simp⟩, by rw [n2]; simp⟩
      · have hnm : m.name.length ≤ 16 := by
          have e2 : bodyW m = if hasCap m.err then join (call.wr (m.session, m.id)) (join ((name []).wr m.name) (join (errno.wr m.err) (caps.wr (m.cap, m.recaps)))) else join (call.wr (m.session, m.id)) (join ((name []).wr m.name) (errno.wr m.err)) := by simp [bodyW, e]
          rw [e2] at hf
          split at hf
          all_goals
            obtain ⟨_, _, _, hf⟩ := join_some hf
            obtain ⟨_, _, h2, _⟩ := join_some hf
            exact name_some h2
        have e1 : bit (hasM m) 2 = false ∧ bit (hasM m) 512 = false := by
          cases hc : hasCap m.err <;> simp only [hasM, e, hc, if_true] <;> decide
        rw [e1.1] at po
        rw [e1.2] at pw
        obtain ⟨n1, n2, n3⟩ := po rfl
        have n4 := pw rfl
        exact ⟨⟨by omega, by rw [n1]; simp, by rw [n2]; decide, by rw [n2]; decide, by rw [n3]; decide, by rw [n3]; decide, by rw [n4]; simp, by rw [n4]; simp⟩, by rw [n4]; simp⟩
      · have hnm : m.name.length ≤ 16 := by
          have e2 : ∃ r, bodyW m = join ((name []).wr m.name) r := by simp only [bodyW, e]; exact ⟨_, rfl⟩
          obtain ⟨r, e2⟩ := e2
          rw [e2] at hf
          obtain ⟨_, _, h2, _⟩ := join_some hf
          exact name_some h2
        have e1 : hasM m = 52 := by simp [hasM, e, hasOf]
        rw [e1] at pn po pw
        obtain ⟨n1, n2, n3⟩ := po (by decide)
        have n4 := pw (by decide)
        exact ⟨⟨by omega, by rw [n1]; simp, by rw [n2]; decide, by rw [n2]; decide, by rw [n3]; decide, by rw [n3]; decide, by rw [n4]; simp, by rw [n4]; simp⟩, by rw [n4]; simp⟩
      · have hnm : m.name.length ≤ 16 := by
          have e2 : ∃ r, bodyW m = join ((name []).wr m.name) r := by simp only [bodyW, e]; exact ⟨_, rfl⟩
          obtain ⟨r, e2⟩ := e2
          rw [e2] at hf
          obtain ⟨_, _, h2, _⟩ := join_some hf
          exact name_some h2
        have e1 : hasM m = 244 := by simp [hasM, e, hasOf]
        rw [e1] at pn po pw
        obtain ⟨n1, n2, n3⟩ := po (by decide)
        have n4 := pw (by decide)
        exact ⟨⟨by omega, by rw [n1]; simp, by rw [n2]; decide, by rw [n2]; decide, by rw [n3]; decide, by rw [n3]; decide, by rw [n4]; simp, by rw [n4]; simp⟩, by rw [n4]; simp⟩
      · have hnm : m.name.length ≤ 16 := by
          have e2 : ∃ r, bodyW m = join ((name []).wr m.name) r := by simp only [bodyW, e]; exact ⟨_, rfl⟩
          obtain ⟨r, e2⟩ := e2
          rw [e2] at hf
          obtain ⟨_, _, h2, _⟩ := join_some hf
          exact name_some h2
        have e1 : hasM m = 116 := by simp [hasM, e, hasOf]
        rw [e1] at pn po pw
        obtain ⟨n1, n2, n3⟩ := po (by decide)
        have n4 := pw (by decide)
        exact ⟨⟨by omega, by rw [n1]; simp, by rw [n2]; decide, by rw [n2]; decide, by rw [n3]; decide, by rw [n3]; decide, by rw [n4]; simp, by rw [n4]; simp⟩, by rw [n4]; simp⟩
      · have hnm : m.name.length ≤ 16 := by
          have e2 : ∃ r, bodyW m = join ((name []).wr m.name) r := by simp only [bodyW, e]; exact ⟨_, rfl⟩
          obtain ⟨r, e2⟩ := e2
          rw [e2] at hf
          obtain ⟨_, _, h2, _⟩ := join_some hf
          exact name_some h2
        have e1 : hasM m = 116 := by simp [hasM, e, hasOf]
        rw [e1] at pn po pw
        obtain ⟨n1, n2, n3⟩ := po (by decide)
        have n4 := pw (by decide)
        exact ⟨⟨by omega, by rw [n1]; simp, by rw [n2]; decide, by rw [n2]; decide, by rw [n3]; decide, by rw [n3]; decide, by rw [n4]; simp, by rw [n4]; simp⟩, by rw [n4]; simp⟩
      · have hnm : m.name.length ≤ 16 := by
          have e2 : ∃ r, bodyW m = join ((name []).wr m.name) r := by simp only [bodyW, e]; exact ⟨_, rfl⟩
          obtain ⟨r, e2⟩ := e2
          rw [e2] at hf
          obtain ⟨_, _, h2, _⟩ := join_some hf
          exact name_some h2
        have e1 : hasM m = 308 := by simp [hasM, e, hasOf]
        rw [e1] at pn po pw
        obtain ⟨n1, n2, n3⟩ := po (by decide)
        have n4 := pw (by decide)
        exact ⟨⟨by omega, by rw [n1]; simp, by rw [n2]; decide, by rw [n2]; decide, by rw [n3]; decide, by rw [n3]; decide, by rw [n4]; simp, by rw [n4]; simp⟩, by rw [n4]; simp⟩
      · have hnm : m.name.length ≤ 16 := by
          have e2 : ∃ r, bodyW m = join ((name []).wr m.name) r := by simp only [bodyW, e]; exact ⟨_, rfl⟩
          obtain ⟨r, e2⟩ := e2
          rw [e2] at hf
          obtain ⟨_, _, h2, _⟩ := join_some hf
          exact name_some h2
        have e1 : hasM m = 84 := by simp [hasM, e, hasOf]
        rw [e1] at pn po pw
        obtain ⟨n1, n2, n3⟩ := po (by decide)
        have n4 := pw (by decide)
        exact ⟨⟨by omega, by rw [n1]; simp, by rw [n2]; decide, by rw [n2]; decide, by rw [n3]; decide, by rw [n3]; decide, by rw [n4]; simp, by rw [n4]; simp⟩, by rw [n4]; simp⟩
      · have hnm : m.name.length ≤ 16 := by
          have e2 : ∃ r, bodyW m = join ((name []).wr m.name) r := by simp only [bodyW, e]; exact ⟨_, rfl⟩
          obtain ⟨r, e2⟩ := e2
          rw [e2] at hf
          obtain ⟨_, _, h2, _⟩ := join_some hf
          exact name_some h2
        have e1 : hasM m = 84 := by simp [hasM, e, hasOf]
        rw [e1] at pn po pw
        obtain ⟨n1, n2, n3⟩ := po (by decide)
        have n4 := pw (by decide)
        exact ⟨⟨by omega, by rw [n1]; simp, by rw [n2]; decide, by rw [n2]; decide, by rw [n3]; decide, by rw [n3]; decide, by rw [n4]; simp, by rw [n4]; simp⟩, by rw [n4]; simp⟩
      · have e2 : bodyW m = views.wr m.views := by simp [bodyW, e]
        rw [e2] at hf
        obtain ⟨v1, v2⟩ := views_some hf
        have e1 : hasM m = 512 := by simp [hasM, e, hasOf]
        rw [e1] at pn po
        have n4 := pn (by decide)
        obtain ⟨n1, n2, n3⟩ := po (by decide)
        exact ⟨⟨by rw [n4]; simp, by rw [n1]; simp, by rw [n2]; decide, by rw [n2]; decide, by rw [n3]; decide, by rw [n3]; decide, by omega, fun x hx => by have := v2 x hx; omega⟩, v1⟩
    · simp only [if_neg hb] at h; cases h
end Go.Proofs.Ytfgnlfemckdfnaa
namespace Go.Proofs.Ytfgnlfemckdfnaa
open Go.RowKit Go.PlainAid
set_option maxRecDepth 100000 in
set_option maxHeartbeats 1600000 in
theorem valid_any (m : Msg) (ao : Option Addr) (cv : Nat) (w : World) (hf : Fit m) (hsrc : VFrom w ao m.views) (hsb : ∀ b1 o1, ao = some ⟨b1, o1, none⟩ → 0 < m.views.length → b1 < w.heap.size) :
    Calls Try.prog 25 #[.agg (msgCells m (.slice ao m.views.length cv))] w (fun e w' => e = .returned (.bool (message.wr m).isSome) ∧ Below w.heap.size w w') := by
  generalize hD : msgCells m (.slice ao m.views.length cv) = D
  have hsz : D.size = 20 := by rw [← hD]; rfl
  have hi35 : (Try.prog.info? 35).map (·.size) = some D.size := by rw [hsz]; kernel_rfl
  have hb1 : Below w.heap.size w (w.alloc (.cells D 35)) := by go_grown
  have n0 : Blk (w.alloc (.cells D 35)) w.heap.size D 35 := heap_alloc_new w _
  have hen := encode_any m ao cv (w.alloc (.cells D 35)) hf (hsrc.keep fun b1 o1 e h0 => hb1.block b1 (hsb b1 o1 e h0)) (fun b1 o1 e h0 => by have := hsb b1 o1 e h0; simp; omega)
  rw [← enc_is, hD] at hen
  clear hD
  go_enter Try.func25, Try.ntmps25
  go_wp2_with (first | (refine wpList_load_row rfl 35 (.tmp 1) rfl w.heap.size rfl 35 D (0, 0) _ n0 Try.underlying35 rfl hi35 ?_) | fail)
  refine hen.mono ?_
  cases hr : message.wr m with
  | none =>
    rintro e1 w1 ⟨hb, rfl⟩
    go_wp2
    go_ret
    exact ⟨by rw [hr]; rfl, hb1.trans (hb.mono hb1.size)⟩
  | some bs =>
    rintro e1 w1 ⟨hb, v, rfl, hv⟩
    obtain ⟨ao1, cap1, rfl, _, _, _, _⟩ := own_from hv
    go_wp2
    go_ret
    exact ⟨by rw [hr]; rfl, hb1.trans (hb.mono hb1.size)⟩
end Go.Proofs.Ytfgnlfemckdfnaa
namespace Go.Proofs.Ytfgnlfemckdfnaa
open Go.RowKit Go.PlainAid
def exM : Msg := { Msg.zero with kind := 3, name := [107], cap := 10, round := 2, rank := 1 }
theorem exM_wr : message.wr exM = some [3, 1, 107, 10, 0, 2, 1] := by kernel_rfl
theorem exM_rd : whole message [3, 1, 107, 10, 0, 2, 1] = .ok (exM, 0) := by kernel_rfl
def exS : Seg := ⟨0, 1, 0, 7, []⟩
theorem exS_wr : segment.wr exS = some [0, 1, 0, 7, 0] := by kernel_rfl
theorem exQ_rd : whole request [3, 1, 2, 1, 107, 10, 0] = .ok (((3, 1), 2, [107], 5, 0), 0) := by kernel_rfl
theorem exR_wr : reply.wr ((0, 9), 0, -3) = some [0, 9, 0, 5] := by kernel_rfl
theorem From.below {w w' : World} {ao : Option Addr} {bs : List UInt8} (h : From w ao bs) (hb : Below w.heap.size w w') : From w' ao bs := by
  intro h0
  obtain ⟨b, off, rfl, hc⟩ := h h0
  refine ⟨b, off, rfl, fun j u hu => ?_⟩
  have := hc j u hu
  rw [hb.cell (World.block_lt_of_cell? w _ this)]
  exact this
theorem load_row_g {ops : Array Oper} {rest : List Oper} {o : Oper} {a : Act} {w : World} {Q : Exit → Act → World → Prop} (ty : TypeId) (x : Operand) (ho : o.op = .load ty x) (hw : Region.wanted o (yielded ops a.tmps) = true)
    (g : Nat) (hx : a.eval x = .pointer (some ⟨g, 0, none⟩)) (t : TypeId) (cs : Array Value) (fr : Nat × Nat) (fs : _) (hg : w.heap[g]? = some (.cells cs t fr))
    (hu : Try.prog.underlying ty = some (.struct fs)) (hi : (Try.prog.info? ty).map (·.size) = some cs.size)
    (h : wpList Try.prog ops Q rest (a.put o.dst (.agg cs)) w) : wpList Try.prog ops Q (o :: rest) a w :=
  wpList_step fun K hK => by
    rw [if_pos hw]
    exact wp_load_row ty x ho g hx t cs fr _ hg hu rfl hi (hK _ _ h)
set_option maxRecDepth 100000 in
set_option maxHeartbeats 3200000 in
theorem able_any (w : World) :
    Calls Try.prog 9 #[] w (fun e w' => e = .returned (.bool true) ∧ Below w.heap.size w w') := by
  go_enter Try.func9, Try.ntmps9
  go_wp2_with fail
  have f1 : Fit exM := (fit_of exM_wr).1
  have he := encode_any exM none 0 w f1 (by intro i x h; cases h) (by intro b o h; cases h)
  rw [← enc_is, exM_wr] at he
  refine Calls.mono (show Calls Try.prog 14 _ w _ from he) ?_
  rintro e1 w1 ⟨hb1, v1, rfl, hv1⟩
  obtain ⟨ao1, cap1, rfl, _, _, hs1, _⟩ := own_from hv1
  clear he
  go_wp2_with fail
  have hsz1 := hb1.size
  have hd := decode_any w1.heap.size 0 7 7 [3, 1, 107, 10, 0, 2, 1] (w1.alloc (.cells #[.int .u8 3, .int .u8 1, .int .u8 107, .int .u8 10, .int .u8 0, .int .u8 2, .int .u8 1] 5)) rfl (from_mark w1 _ _ _ rfl) (by simp) (by decide) (by decide)
  rw [exM_rd] at hd
  refine Calls.mono hd ?_
  rintro e2 w2 ⟨hb2, ao2, c2, rfl, hv2⟩
  obtain ⟨rfl, rfl⟩ : ao2 = none ∧ c2 = 0 := by
    rcases hv2 with ⟨_, h1, h2⟩ | ⟨_, _, _, _, h, _⟩
    · exact ⟨h1, h2⟩
    · exact absurd h (by decide)
  have hB2 : Below w.heap.size w w2 := hb1.trans ((show Below w1.heap.size w1 (w1.alloc _) from by go_grown).trans (hb2.mono (by simp)) |>.mono hsz1)
  have hs2 : From w2 ao1 [3, 1, 107, 10, 0, 2, 1] := hs1.keep fun b o e => by
    have hlt : b < w1.heap.size := by
      subst e
      exact (hv1.lt b rfl).2
    exact (hb2.block b (by simp; omega)).trans (by rw [Below.heap_alloc _ _ _ (by omega)])
  have hsz2 := hB2.size
  have hle : w1.heap.size ≤ w2.heap.size := by have := hb2.size; simp at this; omega
  clear hd hb2 hv2 hv1 hb1 hs1
  have hall : (msgCells exM (.slice none exM.views.length 0)).all (·.oneCell') = true := by kernel_rfl
  generalize hD : msgCells exM (.slice none exM.views.length 0) = D at *
  have HD : Hid _ := hD
  have hsz : D.size = 20 := by rw [← hD]; rfl
  have hi35 : (Try.prog.info? 35).map (·.size) = some D.size := by rw [hsz]; kernel_rfl
  clear hD f1
  have hB0 : Blk (w2.alloc (.cells zeroC 35)) w2.heap.size zeroC 35 := heap_alloc_new w2 _
  have hB3 := setRow_blk (cs := D) hB0
  have hB4 : Below w2.heap.size w2 ((w2.alloc (.cells zeroC 35)).setRow w2.heap.size D) := (show Below w2.heap.size w2 (w2.alloc _) from by go_grown).trans ⟨rfl, rfl, rfl, by simp [World.setRow], fun k hk => setRow_other _ _ _ _ (by omega)⟩
  have HS : Hid _ := (And.intro hsz1 (And.intro hsz2 (And.intro hle hB2)))
  clear hsz1 hsz2 hle hB2
  go_wp2_with (first | (refine wpList_store_row rfl 35 (.tmp 3) (.tmp 23) rfl w2.heap.size D rfl rfl 35 zeroC hB0 hi35 (by rw [hsz]; rfl) hall ?_) | fail)
  rw [zero_is]
  have hs3 := From.below hs2 hB4
  have hB5 : Below w.heap.size w ((w2.alloc (.cells zeroC 35)).setRow w2.heap.size D) := HS.out.2.2.2.trans (hB4.mono HS.out.2.1)
  generalize hW3 : (w2.alloc (.cells zeroC 35)).setRow w2.heap.size D = W3 at *
  generalize hg : w2.heap.size = g at *
  clear hB0 HS hs2 hB4 hW3 hg
  have he := encodeSeg_any exS none 0 W3 (fun _ => ⟨rfl, rfl⟩) (by intro h; exact absurd h (by decide)) (by intro b o h; cases h) (by decide)
  rw [exS_wr] at he
  refine Calls.mono (show Calls Try.prog 18 _ W3 _ from he) ?_
  rintro e4 w4 ⟨hb4, v4, rfl, hv4⟩
  obtain ⟨ao4, cap4, rfl, _, _, hs4, _⟩ := own_from hv4
  have hB4 : Blk w4 g D 35 := (hb4.block g hB3.lt).trans hB3
  have hs3 := From.below hs3 hb4
  have hB5 := hB5.trans (hb4.mono hB5.size)
  clear he hv4 hb4 hB3
  go_wp2_with fail
  have hd := decodeReq_any w4.heap.size 0 7 7 [3, 1, 2, 1, 107, 10, 0] (w4.alloc (.cells #[.int .u8 3, .int .u8 1, .int .u8 2, .int .u8 1, .int .u8 107, .int .u8 10, .int .u8 0] 5)) rfl (from_mark w4 _ _ _ rfl) (by simp) (by decide) (by decide)
  rw [exQ_rd] at hd
  refine Calls.mono hd ?_
  rintro e5 w5 ⟨hb5, rfl⟩
  have hb5 : Below w4.heap.size w4 w5 := (show Below w4.heap.size w4 (w4.alloc _) from by go_grown).trans (hb5.mono (by simp))
  have hB5' : Blk w5 g D 35 := (hb5.block g hB4.lt).trans hB4
  have hs3 := From.below hs3 hb5
  have hs4 := From.below hs4 hb5
  have hB5 := hB5.trans (hb5.mono hB5.size)
  clear hd hb5 hB4
  simp only [callCells, opCells, Str]
  go_wp2_with fail
  have hb6 : Below w5.heap.size w5 ((w5.alloc (.cells #[.int .i64 3, .int .i64 1] 29)).alloc (.cells #[.int .i64 2, .string ⟨#[107]⟩, .int .i64 5, .int .i64 0] 31)) := by go_grown
  have cq : ((w5.alloc (.cells #[.int .i64 3, .int .i64 1] 29)).alloc (.cells #[.int .i64 2, .string ⟨#[107]⟩, .int .i64 5, .int .i64 0] 31)).cell? ⟨w5.heap.size, 0, none⟩ = some (.int .i64 3) := by
    rw [cell_of_row _ w5.heap.size 0 #[.int .i64 3, .int .i64 1] 29 (0, 0) ((Below.heap_alloc _ _ _ (by simp)).trans (heap_alloc_new w5 _))]; rfl
  have co : ((w5.alloc (.cells #[.int .i64 3, .int .i64 1] 29)).alloc (.cells #[.int .i64 2, .string ⟨#[107]⟩, .int .i64 5, .int .i64 0] 31)).cell? ⟨w5.heap.size + 1, 2, none⟩ = some (.int .i64 5) := by
    have := heap_alloc_new (w5.alloc (.cells #[.int .i64 3, .int .i64 1] 29)) (.cells #[.int .i64 2, .string ⟨#[107]⟩, .int .i64 5, .int .i64 0] 31)
    rw [World.size_alloc] at this
    rw [cell_of_row _ (w5.heap.size + 1) 2 _ 31 (0, 0) this]; rfl
  have hB6 : Blk ((w5.alloc (.cells #[.int .i64 3, .int .i64 1] 29)).alloc (.cells #[.int .i64 2, .string ⟨#[107]⟩, .int .i64 5, .int .i64 0] 31)) g D 35 := (hb6.block g hB5'.lt).trans hB5'
  have hs3 := From.below hs3 hb6
  have hs4 := From.below hs4 hb6
  have hB5 := hB5.trans (hb6.mono hB5.size)
  have hl6 : w5.heap.size + 1 < ((w5.alloc (.cells #[.int .i64 3, .int .i64 1] 29)).alloc (.cells #[.int .i64 2, .string ⟨#[107]⟩, .int .i64 5, .int .i64 0] 31)).heap.size := by simp
  generalize (w5.alloc (.cells #[.int .i64 3, .int .i64 1] 29)).alloc (.cells #[.int .i64 2, .string ⟨#[107]⟩, .int .i64 5, .int .i64 0] 31) = W6 at *
  generalize w5.heap.size = h at *
  clear hb6 hB5'
  have he := encodeRep_any ((0, 9), 0, -3) W6 (by decide) (by decide)
  rw [exR_wr] at he
  refine Calls.mono (show Calls Try.prog 22 _ W6 _ from he) ?_
  rintro e7 w7 ⟨hb7, v7, rfl, hv7⟩
  obtain ⟨ao7, cap7, rfl, _, _, hs7, _⟩ := own_from hv7
  have hB7 : Blk w7 g D 35 := (hb7.block g hB6.lt).trans hB6
  have hs3 := From.below hs3 hb7
  have hs4 := From.below hs4 hb7
  have hB5 := hB5.trans (hb7.mono hB5.size)
  have cq : w7.cell? ⟨h, 0, none⟩ = some (.int .i64 3) := (hb7.cell (by simp; omega)).trans cq
  have co : w7.cell? ⟨h + 1, 2, none⟩ = some (.int .i64 5) := (hb7.cell (by simp; omega)).trans co
  clear he hv7 hb7 hB6
  go_wp2_with fail
  have hb8 : Below w7.heap.size w7 (w7.alloc (.cells #[.int .u8 3, .int .u8 1, .int .u8 107, .int .u8 10, .int .u8 0, .int .u8 2, .int .u8 1] 5)) := by go_grown
  refine Calls.mono (alike_any ao1 (some ⟨w7.heap.size, 0, none⟩) 7 7 cap1 7 [3, 1, 107, 10, 0, 2, 1] [3, 1, 107, 10, 0, 2, 1] _ rfl rfl (From.below hs3 hb8) (from_mark w7 [3, 1, 107, 10, 0, 2, 1] _ _ rfl)) ?_
  rw [show decide (([3, 1, 107, 10, 0, 2, 1] : List UInt8) = [3, 1, 107, 10, 0, 2, 1]) = true from by decide]
  rintro e8 w8 ⟨rfl, hw8⟩
  rw [← hw8] at hb8
  have hs4 := From.below hs4 hb8
  have hs7 := From.below hs7 hb8
  have cq := (hb8.cell (World.block_lt_of_cell? _ _ cq)).trans cq
  have co := (hb8.cell (World.block_lt_of_cell? _ _ co)).trans co
  have hB7 : Blk w8 g D 35 := (hb8.block g hB7.lt).trans hB7
  have hB5 := hB5.trans (hb8.mono hB5.size)
  have d0 : w8.cell? ⟨g, 0, none⟩ = some (.int .i64 3) := (hB7.cell 0).trans (by rw [← HD.out]; rfl)
  have d2 : w8.cell? ⟨g, 2, none⟩ = some (.int .i64 10) := (hB7.cell 2).trans (by rw [← HD.out]; rfl)
  have d4 : w8.cell? ⟨g, 4, none⟩ = some (.int .i64 2) := (hB7.cell 4).trans (by rw [← HD.out]; rfl)
  clear hb8 hw8
  go_wp2_with fail
  have hb9 : Below w8.heap.size w8 (w8.alloc (.cells #[.int .u8 0, .int .u8 1, .int .u8 0, .int .u8 7, .int .u8 0] 5)) := by go_grown
  refine Calls.mono (alike_any ao4 (some ⟨w8.heap.size, 0, none⟩) 5 5 cap4 5 [0, 1, 0, 7, 0] [0, 1, 0, 7, 0] _ rfl rfl (From.below hs4 hb9) (from_mark w8 [0, 1, 0, 7, 0] _ _ rfl)) ?_
  rw [show decide (([0, 1, 0, 7, 0] : List UInt8) = [0, 1, 0, 7, 0]) = true from by decide]
  rintro e9 w9 ⟨rfl, hw9⟩
  rw [← hw9] at hb9
  have hs4 := From.below hs4 hb9
  have hs7 := From.below hs7 hb9
  have cq := (hb9.cell (World.block_lt_of_cell? _ _ cq)).trans cq
  have co := (hb9.cell (World.block_lt_of_cell? _ _ co)).trans co
  have hB7 : Blk w9 g D 35 := (hb9.block g hB7.lt).trans hB7
  have hB5 := hB5.trans (hb9.mono hB5.size)
  have d0 : w9.cell? ⟨g, 0, none⟩ = some (.int .i64 3) := (hB7.cell 0).trans (by rw [← HD.out]; rfl)
  have d2 : w9.cell? ⟨g, 2, none⟩ = some (.int .i64 10) := (hB7.cell 2).trans (by rw [← HD.out]; rfl)
  have d4 : w9.cell? ⟨g, 4, none⟩ = some (.int .i64 2) := (hB7.cell 4).trans (by rw [← HD.out]; rfl)
  clear hb9 hw9
  go_wp2_with fail
  have hb10 : Below w9.heap.size w9 (w9.alloc (.cells #[.int .u8 0, .int .u8 9, .int .u8 0, .int .u8 5] 5)) := by go_grown
  refine Calls.mono (alike_any ao7 (some ⟨w9.heap.size, 0, none⟩) 4 4 cap7 4 [0, 9, 0, 5] [0, 9, 0, 5] _ rfl rfl (From.below hs7 hb10) (from_mark w9 [0, 9, 0, 5] _ _ rfl)) ?_
  rw [show decide (([0, 9, 0, 5] : List UInt8) = [0, 9, 0, 5]) = true from by decide]
  rintro e10 w10 ⟨rfl, hw10⟩
  rw [← hw10] at hb10
  have hs4 := From.below hs4 hb10
  have hs7 := From.below hs7 hb10
  have cq := (hb10.cell (World.block_lt_of_cell? _ _ cq)).trans cq
  have co := (hb10.cell (World.block_lt_of_cell? _ _ co)).trans co
  have hB7 : Blk w10 g D 35 := (hb10.block g hB7.lt).trans hB7
  have hB5 := hB5.trans (hb10.mono hB5.size)
  have d0 : w10.cell? ⟨g, 0, none⟩ = some (.int .i64 3) := (hB7.cell 0).trans (by rw [← HD.out]; rfl)
  have d2 : w10.cell? ⟨g, 2, none⟩ = some (.int .i64 10) := (hB7.cell 2).trans (by rw [← HD.out]; rfl)
  have d4 : w10.cell? ⟨g, 4, none⟩ = some (.int .i64 2) := (hB7.cell 4).trans (by rw [← HD.out]; rfl)
  clear hb10 hw10
  have hva := valid_any exM none 0 w10 (fit_of exM_wr).1 (by intro i x h; cases h) (by intro b o h; cases h)
  rw [exM_wr, HD.out] at hva
  clear d0 d2 d4
  go_wp2_with (first | (refine load_row_g 35 (.tmp 3) rfl (by rfl) g rfl 35 D (0, 0) _ hB7 Try.underlying35 hi35 ?_) | (go_at_call 25; refine hva.mono ?_; rintro e11 w11 ⟨rfl, hb11⟩) | fail)
  go_ret
  exact ⟨rfl, hB5.trans (hb11.mono hB5.size)⟩
end Go.Proofs.Ytfgnlfemckdfnaa
namespace Go.Proofs.Ytfgnlfemckdfnaa
open Go.RowKit Go.PlainAid
end Go.Proofs.Ytfgnlfemckdfnaa
namespace Go.Proofs.Ytfgnlfemckdfnaa
open Go.RowKit Go.PlainAid
theorem Fr.lit {N : Nat} {a : Act} {f : Nat → Value} (h : Fr N a f) : a = { tmps := ((List.range N).map f).toArray, defers := [] } := by
  obtain ⟨t, d⟩ := a
  have h1 := h.size
  have h2 := h.defers
  simp only at h1 h2
  subst h2
  congr 1
  apply Array.ext_getElem?
  intro i
  by_cases hi : i < N
  · rw [h.get i hi]
    simp [hi]
  · rw [Array.getElem?_eq_none (by omega), Array.getElem?_eq_none (by simp; omega)]
end Go.Proofs.Ytfgnlfemckdfnaa
namespace Go.Proofs.Ytfgnlfemckdfnaa
open Go.RowKit Go.PlainAid
set_option linter.unusedSimpArgs false
theorem Fr.ofLit {N : Nat} (t : Array Value) (h : t.size = N) : Fr N { tmps := t, defers := [] } (fun j => t.getD j undef) := by
  refine ⟨h, rfl, fun j hj => ?_⟩
  simp [Array.getD, h, hj]
end Go.Proofs.Ytfgnlfemckdfnaa
