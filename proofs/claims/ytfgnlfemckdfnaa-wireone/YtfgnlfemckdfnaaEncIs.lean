import Derived.Test.YtfgnlfemckdfnaaWEnc
namespace Go.Proofs.Ytfgnlfemckdfnaa
open Go.RowKit Go.PlainAid
set_option linter.unusedSimpArgs false

theorem len_zero (l : List View) : (((l.length : Nat) : Int) == 0) = l.isEmpty := by
  cases l with
  | nil => rfl
  | cons a t => simp only [List.length_cons, List.isEmpty_cons]; rw [beq_eq_false_iff_ne]; omega
theorem bare_parts (m : Msg) (has : Int) : bareB m m.views.length has = parts (bit has 1) (bit has 2) (bit has 4) (bit has 8) (bit has 16) (bit has 32) (bit has 64) (bit has 128) (bit has 256) (bit has 512) m := by
  simp only [bareB, parts, noCall, noOp, noName, noErr, noCap, noEpoch, noRights, noHeld, noOver, noViews, len_zero, Bool.and_assoc]

theorem pair_wr {α β : Type} (c : Codec α) (d : Codec β) (x : α) (y : β) : (pair c d).wr (x, y) = join (c.wr x) (d.wr y) := rfl
theorem body_is (m : Msg) (hk : 1 ≤ m.kind ∧ m.kind ≤ 10) : (bodyC m.kind).wr m = if bareB m m.views.length (hasM m) then bodyW m else none := by
  rw [bare_parts]
  rcases (show m.kind = 1 ∨ m.kind = 2 ∨ m.kind = 3 ∨ m.kind = 4 ∨ m.kind = 5 ∨ m.kind = 6 ∨ m.kind = 7 ∨ m.kind = 8 ∨ m.kind = 9 ∨ m.kind = 10 from by omega) with e | e | e | e | e | e | e | e | e | e
  · have e1 : hasM m = 3 := by simp [hasM, e, hasOf]
    have e2 : bodyW m = join (call.wr (m.session, m.id)) (op.wr (m.okind, m.oname, m.oa, m.ob)) := by simp [bodyW, e]
    rw [e1, e2]
    simp only [show bit 3 1 = true from by decide, show bit 3 2 = true from by decide, show bit 3 4 = false from by decide, show bit 3 8 = false from by decide, show bit 3 16 = false from by decide, show bit 3 32 = false from by decide, show bit 3 64 = false from by decide, show bit 3 128 = false from by decide, show bit 3 256 = false from by decide, show bit 3 512 = false from by decide]
    have e3 : bodyC m.kind = askC := by simp [bodyC, e]
    rw [e3]
    show (if ((m.kind == 1) && parts true true false false false false false false false false m) = true then _ else none) = _
    rw [e]
    rfl
  · have e3 : bodyC m.kind = toldC := by simp [bodyC, e]
    rw [e3]
    have e4 : toldC.wr m = if ((m.kind == 2) && parts true false true true true false false false false false m) = true then join (call.wr (m.session, m.id)) (join ((name []).wr m.name) (match errno.wr m.err with
      | none => none
      | some p => match (capsIf m.err).wr (m.cap, m.recaps) with
        | none => none
        | some q => some (p ++ q))) else none := rfl
    rw [e4, e]
    cases hc : hasCap m.err
    · have e1 : hasM m = 13 := by simp [hasM, e, hc]
      have e2 : bodyW m = join (call.wr (m.session, m.id)) (join ((name []).wr m.name) (errno.wr m.err)) := by simp [bodyW, e, hc]
      have e5 : (capsIf m.err).wr (m.cap, m.recaps) = if (m.cap == 0 && m.recaps == 0) = true then some [] else none := by simp only [capsIf, hc]; rfl
      rw [e1, e2, e5]
      simp only [show bit 13 1 = true from by decide, show bit 13 2 = false from by decide, show bit 13 4 = true from by decide, show bit 13 8 = true from by decide, show bit 13 16 = false from by decide, show bit 13 32 = false from by decide, show bit 13 64 = false from by decide, show bit 13 128 = false from by decide, show bit 13 256 = false from by decide, show bit 13 512 = false from by decide]
      have e6 : ((2 : Int) == 2) = true := rfl
      rw [e6, Bool.true_and]
      cases hz : (m.cap == 0 && m.recaps == 0)
      · have e7 : parts true false true true false false false false false false m = false := by simp [parts, noCap, hz]
        rw [e7]
        simp only [Bool.false_eq_true, if_false]
        cases errno.wr m.err <;> cases (name []).wr m.name <;> cases call.wr (m.session, m.id) <;> simp [join]
      · have e7 : parts true false true true false false false false false false m = parts true false true true true false false false false false m := by simp [parts, noCap, hz]
        rw [e7]
        simp only [if_true]
        cases errno.wr m.err <;> simp
    · have e1 : hasM m = 29 := by simp [hasM, e, hc]
      have e2 : bodyW m = join (call.wr (m.session, m.id)) (join ((name []).wr m.name) (join (errno.wr m.err) (caps.wr (m.cap, m.recaps)))) := by simp [bodyW, e, hc]
      have e5 : capsIf m.err = caps := by simp [capsIf, hc]
      rw [e1, e2, e5]
      simp only [show bit 29 1 = true from by decide, show bit 29 2 = false from by decide, show bit 29 4 = true from by decide, show bit 29 8 = true from by decide, show bit 29 16 = true from by decide, show bit 29 32 = false from by decide, show bit 29 64 = false from by decide, show bit 29 128 = false from by decide, show bit 29 256 = false from by decide, show bit 29 512 = false from by decide]
      rfl
  · have e1 : hasM m = 52 := by simp [hasM, e, hasOf]
    have e2 : bodyW m = join ((name []).wr m.name) (join (caps.wr (m.cap, m.recaps)) (epoch.wr (m.round, m.rank))) := by simp [bodyW, e]
    rw [e1, e2]
    simp only [show bit 52 1 = false from by decide, show bit 52 2 = false from by decide, show bit 52 4 = true from by decide, show bit 52 8 = false from by decide, show bit 52 16 = true from by decide, show bit 52 32 = true from by decide, show bit 52 64 = false from by decide, show bit 52 128 = false from by decide, show bit 52 256 = false from by decide, show bit 52 512 = false from by decide]
    have e3 : bodyC m.kind = markC := by simp [bodyC, e]
    rw [e3]
    show (if ((m.kind == 3) && parts false false true false true true false false false false m) = true then _ else none) = _
    rw [e]
    rfl
  · have e1 : hasM m = 244 := by simp [hasM, e, hasOf]
    have e2 : bodyW m = join ((name []).wr m.name) (join (caps.wr (m.cap, m.recaps)) (join (epoch.wr (m.round, m.rank)) (join (rights.wr (m.down, m.up)) (held.wr m.held)))) := by simp [bodyW, e]
    rw [e1, e2]
    simp only [show bit 244 1 = false from by decide, show bit 244 2 = false from by decide, show bit 244 4 = true from by decide, show bit 244 8 = false from by decide, show bit 244 16 = true from by decide, show bit 244 32 = true from by decide, show bit 244 64 = true from by decide, show bit 244 128 = true from by decide, show bit 244 256 = false from by decide, show bit 244 512 = false from by decide]
    have e3 : bodyC m.kind = yieldC := by simp [bodyC, e]
    rw [e3]
    show (if ((m.kind == 4) && parts false false true false true true true true false false m) = true then _ else none) = _
    rw [e]
    rfl
  · have e1 : hasM m = 116 := by simp [hasM, e, hasOf]
    have e2 : bodyW m = join ((name []).wr m.name) (join (caps.wr (m.cap, m.recaps)) (join (epoch.wr (m.round, m.rank)) (rights.wr (m.down, m.up)))) := by simp [bodyW, e]
    rw [e1, e2]
    simp only [show bit 116 1 = false from by decide, show bit 116 2 = false from by decide, show bit 116 4 = true from by decide, show bit 116 8 = false from by decide, show bit 116 16 = true from by decide, show bit 116 32 = true from by decide, show bit 116 64 = true from by decide, show bit 116 128 = false from by decide, show bit 116 256 = false from by decide, show bit 116 512 = false from by decide]
    have e3 : bodyC m.kind = grantC 5 := by simp [bodyC, e]
    rw [e3]
    show (if ((m.kind == 5) && parts false false true false true true true false false false m) = true then _ else none) = _
    rw [e]
    rfl
  · have e1 : hasM m = 116 := by simp [hasM, e, hasOf]
    have e2 : bodyW m = join ((name []).wr m.name) (join (caps.wr (m.cap, m.recaps)) (join (epoch.wr (m.round, m.rank)) (rights.wr (m.down, m.up)))) := by simp [bodyW, e]
    rw [e1, e2]
    simp only [show bit 116 1 = false from by decide, show bit 116 2 = false from by decide, show bit 116 4 = true from by decide, show bit 116 8 = false from by decide, show bit 116 16 = true from by decide, show bit 116 32 = true from by decide, show bit 116 64 = true from by decide, show bit 116 128 = false from by decide, show bit 116 256 = false from by decide, show bit 116 512 = false from by decide]
    have e3 : bodyC m.kind = grantC 6 := by simp [bodyC, e]
    rw [e3]
    show (if ((m.kind == 6) && parts false false true false true true true false false false m) = true then _ else none) = _
    rw [e]
    rfl
  · have e1 : hasM m = 308 := by simp [hasM, e, hasOf]
    have e2 : bodyW m = join ((name []).wr m.name) (join (caps.wr (m.cap, m.recaps)) (join (epoch.wr (m.round, m.rank)) (epoch.wr (m.oround, m.orank)))) := by simp [bodyW, e]
    rw [e1, e2]
    simp only [show bit 308 1 = false from by decide, show bit 308 2 = false from by decide, show bit 308 4 = true from by decide, show bit 308 8 = false from by decide, show bit 308 16 = true from by decide, show bit 308 32 = true from by decide, show bit 308 64 = false from by decide, show bit 308 128 = false from by decide, show bit 308 256 = true from by decide, show bit 308 512 = false from by decide]
    have e3 : bodyC m.kind = overC := by simp [bodyC, e]
    rw [e3]
    show (if ((m.kind == 7) && parts false false true false true true false false true false m) = true then _ else none) = _
    rw [e]
    rfl
  · have e1 : hasM m = 84 := by simp [hasM, e, hasOf]
    have e2 : bodyW m = join ((name []).wr m.name) (join (caps.wr (m.cap, m.recaps)) (rights.wr (m.down, m.up))) := by simp [bodyW, e]
    rw [e1, e2]
    simp only [show bit 84 1 = false from by decide, show bit 84 2 = false from by decide, show bit 84 4 = true from by decide, show bit 84 8 = false from by decide, show bit 84 16 = true from by decide, show bit 84 32 = false from by decide, show bit 84 64 = true from by decide, show bit 84 128 = false from by decide, show bit 84 256 = false from by decide, show bit 84 512 = false from by decide]
    have e3 : bodyC m.kind = wantC 8 := by simp [bodyC, e]
    rw [e3]
    show (if ((m.kind == 8) && parts false false true false true false true false false false m) = true then _ else none) = _
    rw [e]
    rfl
  · have e1 : hasM m = 84 := by simp [hasM, e, hasOf]
    have e2 : bodyW m = join ((name []).wr m.name) (join (caps.wr (m.cap, m.recaps)) (rights.wr (m.down, m.up))) := by simp [bodyW, e]
    rw [e1, e2]
    simp only [show bit 84 1 = false from by decide, show bit 84 2 = false from by decide, show bit 84 4 = true from by decide, show bit 84 8 = false from by decide, show bit 84 16 = true from by decide, show bit 84 32 = false from by decide, show bit 84 64 = true from by decide, show bit 84 128 = false from by decide, show bit 84 256 = false from by decide, show bit 84 512 = false from by decide]
    have e3 : bodyC m.kind = wantC 9 := by simp [bodyC, e]
    rw [e3]
    show (if ((m.kind == 9) && parts false false true false true false true false false false m) = true then _ else none) = _
    rw [e]
    rfl
  · have e1 : hasM m = 512 := by simp [hasM, e, hasOf]
    have e2 : bodyW m = views.wr m.views := by simp [bodyW, e]
    rw [e1, e2]
    simp only [show bit 512 1 = false from by decide, show bit 512 2 = false from by decide, show bit 512 4 = false from by decide, show bit 512 8 = false from by decide, show bit 512 16 = false from by decide, show bit 512 32 = false from by decide, show bit 512 64 = false from by decide, show bit 512 128 = false from by decide, show bit 512 256 = false from by decide, show bit 512 512 = true from by decide]
    have e3 : bodyC m.kind = digestC := by simp [bodyC, e]
    rw [e3]
    show (if ((m.kind == 10) && parts false false false false false false false false false true m) = true then _ else none) = _
    rw [e]
    rfl
theorem enc_is (m : Msg) : message.wr m = encM m := by
  have h0 : message.wr m = match (num 1 10).wr m.kind with
      | none => none
      | some p => match (bodyC m.kind).wr m with
        | none => none
        | some q => some (p ++ q) := rfl
  have h1 : fieldsW m = join ((num 1 10).wr m.kind) (bodyW m) := rfl
  rw [h0]
  unfold encM
  rw [h1]
  by_cases hk : 1 ≤ m.kind ∧ m.kind ≤ 10
  · rw [body_is m hk]
    cases (num 1 10).wr m.kind with
    | none => rfl
    | some p =>
      cases hb : bareB m m.views.length (hasM m)
      · cases bodyW m <;> rfl
      · cases bodyW m <;> rfl
  · have hn : (num 1 10).wr m.kind = none := by
      simp only [num]; rw [if_neg (by simp only [Bool.and_eq_true, decide_eq_true_eq]; omega)]
    rw [hn]
    rfl
end Go.Proofs.Ytfgnlfemckdfnaa
