import Derived.Test.YtfgnlfemckdfnaaEncIs
namespace Go.Proofs.Ytfgnlfemckdfnaa
open Go.RowKit Go.PlainAid
set_option linter.unusedSimpArgs false

theorem join_some {a b : Option (List UInt8)} {c : List UInt8} (h : join a b = some c) : ∃ p q, a = some p ∧ b = some q := by
  cases a with
  | none => cases h
  | some p => cases b with
    | none => cases h
    | some q => exact ⟨p, q, rfl, rfl⟩
theorem num_some {lo hi : Nat} {x : Int} {bs : List UInt8} (h : (num lo hi).wr x = some bs) : (lo : Int) ≤ x ∧ x ≤ hi := by
  simp only [num] at h
  split at h
  · rename_i h1
    simp only [Bool.and_eq_true, decide_eq_true_eq] at h1
    exact h1
  · cases h
theorem signed_some {x : Int} {bs : List UInt8} (h : signed.wr x = some bs) : (-9223372036854775808 : Int) ≤ x ∧ x < 9223372036854775808 := by
  simp only [signed] at h
  split at h
  · rename_i h1
    simp only [Bool.and_eq_true, decide_eq_true_eq] at h1
    exact h1
  · cases h
theorem name_some {ab s bs : List UInt8} (h : (name ab).wr s = some bs) : s.length ≤ 16 := by
  have e : (name ab).wr s = match (num 1 16).wr (s.length : Int) with
    | none => none
    | some p => match (text ab ((s.length : Int)).toNat).wr s with
      | none => none
      | some q => some (p ++ q) := rfl
  rw [e] at h
  cases hn : (num 1 16).wr (s.length : Int) with
  | none => rw [hn] at h; cases h
  | some p => have := num_some hn; omega
theorem op_some {x : Int × List UInt8 × Int × Int} {bs : List UInt8} (h : op.wr x = some bs) : x.2.1.length ≤ 16 ∧ (-9223372036854775808 : Int) ≤ x.2.2.1 ∧ x.2.2.1 < 9223372036854775808 ∧ (-9223372036854775808 : Int) ≤ x.2.2.2 ∧ x.2.2.2 < 9223372036854775808 := by
  have e : op.wr x = join ((num 1 11).wr x.1) (join ((name []).wr x.2.1) (join (signed.wr x.2.2.1) (signed.wr x.2.2.2))) := rfl
  rw [e] at h
  obtain ⟨_, _, _, h⟩ := join_some h
  obtain ⟨_, _, h1, h⟩ := join_some h
  obtain ⟨_, _, h2, h3⟩ := join_some h
  exact ⟨name_some h1, (signed_some h2).1, (signed_some h2).2, (signed_some h3).1, (signed_some h3).2⟩
theorem view_some {ab : List UInt8} {v : View} {bs : List UInt8} (h : (view ab).wr v = some bs) : v.name.length ≤ 16 := by
  have e : ∃ r, (view ab).wr v = join ((name ab).wr v.name) r := ⟨_, rfl⟩
  obtain ⟨r, e⟩ := e
  rw [e] at h
  obtain ⟨_, _, h1, _⟩ := join_some h
  exact name_some h1
theorem viewList_some : ∀ (n : Nat) (ab : List UInt8) (l : List View) (bs : List UInt8), (viewList n ab).wr l = some bs → l.length = n ∧ ∀ x ∈ l, x.name.length ≤ 16
  | 0, ab, l, bs, h => by
    simp only [viewList, Codec.map] at h
    cases l with
    | nil => exact ⟨rfl, fun x hx => by cases hx⟩
    | cons a t => simp at h
  | n + 1, ab, l, bs, h => by
    cases l with
    | nil => simp [viewList, Codec.map] at h
    | cons a t =>
      have e : (viewList (n + 1) ab).wr (a :: t) = match (view ab).wr a with
        | none => none
        | some p => match (viewList n a.name).wr t with
          | none => none
          | some q => some (p ++ q) := rfl
      rw [e] at h
      cases h1 : (view ab).wr a with
      | none => rw [h1] at h; cases h
      | some p =>
        cases h2 : (viewList n a.name).wr t with
        | none => rw [h1, h2] at h; cases h
        | some q =>
          obtain ⟨i1, i2⟩ := viewList_some n a.name t q h2
          refine ⟨by simp [i1], fun x hx => ?_⟩
          rcases List.mem_cons.1 hx with rfl | hx
          · exact view_some h1
          · exact i2 x hx
theorem views_some {l : List View} {bs : List UInt8} (h : views.wr l = some bs) : l.length ≤ 64 ∧ ∀ x ∈ l, x.name.length ≤ 16 := by
  have e : views.wr l = match (num 0 64).wr (l.length : Int) with
    | none => none
    | some p => match (viewList ((l.length : Int)).toNat []).wr l with
      | none => none
      | some q => some (p ++ q) := rfl
  rw [e] at h
  cases hn : (num 0 64).wr (l.length : Int) with
  | none => rw [hn] at h; cases h
  | some p =>
    cases h2 : (viewList ((l.length : Int)).toNat []).wr l with
    | none => rw [hn, h2] at h; cases h
    | some q => exact ⟨by have := num_some hn; omega, (viewList_some _ _ _ _ h2).2⟩

theorem parts_out {c o n e k p r h v w : Bool} {m : Msg} (hp : parts c o n e k p r h v w m = true) : (n = false → m.name = []) ∧ (o = false → m.oname = [] ∧ m.oa = 0 ∧ m.ob = 0) ∧ (w = false → m.views = []) := by
  simp only [parts, noName, noOp, noViews, Bool.and_eq_true, Bool.or_eq_true, beq_iff_eq, List.isEmpty_iff] at hp
  refine ⟨fun hn => ?_, fun ho => ?_, fun hw => ?_⟩ <;> simp_all

theorem fit_of {m : Msg} {bs : List UInt8} (h : message.wr m = some bs) : Fit m ∧ m.views.length ≤ 64 := by
  rw [enc_is] at h
  unfold encM at h
  cases hf : fieldsW m with
  | none => rw [hf] at h; cases h
  | some q =>
    rw [hf] at h
    by_cases hb : bareB m m.views.length (hasM m) = true
    · rw [bare_parts] at hb
      obtain ⟨pn, po, pw⟩ := parts_out hb
      unfold fieldsW at hf
      obtain ⟨_, _, hk, hf⟩ := join_some hf
      have hk := num_some hk
      rcases (show m.kind = 1 ∨ m.kind = 2 ∨ m.kind = 3 ∨ m.kind = 4 ∨ m.kind = 5 ∨ m.kind = 6 ∨ m.kind = 7 ∨ m.kind = 8 ∨ m.kind = 9 ∨ m.kind = 10 from by omega) with e | e | e | e | e | e | e | e | e | e
      · have e2 : bodyW m = join (call.wr (m.session, m.id)) (op.wr (m.okind, m.oname, m.oa, m.ob)) := by simp [bodyW, e]
        rw [e2] at hf
        obtain ⟨_, _, _, h2⟩ := join_some hf
        obtain ⟨o1, o2, o3, o4, o5⟩ := op_some h2
        have e1 : hasM m = 3 := by simp [hasM, e, hasOf]
        rw [e1] at pn po pw
        have n1 := pn (by decide)
        have n2 := pw (by decide)
        exact ⟨⟨by rw [n1]; simp, by simp only at o1; omega, o2, o3, o4, o5, by rw [n2]; simp, by rw [n2]; simp⟩, by rw [n2]; simp⟩
      · have hnm : m.name.length ≤ 16 := by
          have e2 : bodyW m = if hasCap m.err then join (call.wr (m.session, m.id)) (join ((name []).wr m.name) (join (errno.wr m.err) (caps.wr (m.cap, m.recaps)))) else join (call.wr (m.session, m.id)) (join ((name []).wr m.name) (errno.wr m.err)) := by simp [bodyW, e]
          rw [e2] at hf
          split at hf
          all_goals
            obtain ⟨_, _, _, hf⟩ := join_some hf
            obtain ⟨_, _, h2, _⟩ := join_some hf
            exact name_some h2
        have e1 : bit (hasM m) 2 = false ∧ bit (hasM m) 512 = false := by
          cases hc : hasCap m.err <;> simp only [hasM, e, hc, if_true] <;> decide
        rw [e1.1] at po
        rw [e1.2] at pw
        obtain ⟨n1, n2, n3⟩ := po rfl
        have n4 := pw rfl
        exact ⟨⟨by omega, by rw [n1]; simp, by rw [n2]; decide, by rw [n2]; decide, by rw [n3]; decide, by rw [n3]; decide, by rw [n4]; simp, by rw [n4]; simp⟩, by rw [n4]; simp⟩
      · have hnm : m.name.length ≤ 16 := by
          have e2 : ∃ r, bodyW m = join ((name []).wr m.name) r := by simp only [bodyW, e]; exact ⟨_, rfl⟩
          obtain ⟨r, e2⟩ := e2
          rw [e2] at hf
          obtain ⟨_, _, h2, _⟩ := join_some hf
          exact name_some h2
        have e1 : hasM m = 52 := by simp [hasM, e, hasOf]
        rw [e1] at pn po pw
        obtain ⟨n1, n2, n3⟩ := po (by decide)
        have n4 := pw (by decide)
        exact ⟨⟨by omega, by rw [n1]; simp, by rw [n2]; decide, by rw [n2]; decide, by rw [n3]; decide, by rw [n3]; decide, by rw [n4]; simp, by rw [n4]; simp⟩, by rw [n4]; simp⟩
      · have hnm : m.name.length ≤ 16 := by
          have e2 : ∃ r, bodyW m = join ((name []).wr m.name) r := by simp only [bodyW, e]; exact ⟨_, rfl⟩
          obtain ⟨r, e2⟩ := e2
          rw [e2] at hf
          obtain ⟨_, _, h2, _⟩ := join_some hf
          exact name_some h2
        have e1 : hasM m = 244 := by simp [hasM, e, hasOf]
        rw [e1] at pn po pw
        obtain ⟨n1, n2, n3⟩ := po (by decide)
        have n4 := pw (by decide)
        exact ⟨⟨by omega, by rw [n1]; simp, by rw [n2]; decide, by rw [n2]; decide, by rw [n3]; decide, by rw [n3]; decide, by rw [n4]; simp, by rw [n4]; simp⟩, by rw [n4]; simp⟩
      · have hnm : m.name.length ≤ 16 := by
          have e2 : ∃ r, bodyW m = join ((name []).wr m.name) r := by simp only [bodyW, e]; exact ⟨_, rfl⟩
          obtain ⟨r, e2⟩ := e2
          rw [e2] at hf
          obtain ⟨_, _, h2, _⟩ := join_some hf
          exact name_some h2
        have e1 : hasM m = 116 := by simp [hasM, e, hasOf]
        rw [e1] at pn po pw
        obtain ⟨n1, n2, n3⟩ := po (by decide)
        have n4 := pw (by decide)
        exact ⟨⟨by omega, by rw [n1]; simp, by rw [n2]; decide, by rw [n2]; decide, by rw [n3]; decide, by rw [n3]; decide, by rw [n4]; simp, by rw [n4]; simp⟩, by rw [n4]; simp⟩
      · have hnm : m.name.length ≤ 16 := by
          have e2 : ∃ r, bodyW m = join ((name []).wr m.name) r := by simp only [bodyW, e]; exact ⟨_, rfl⟩
          obtain ⟨r, e2⟩ := e2
          rw [e2] at hf
          obtain ⟨_, _, h2, _⟩ := join_some hf
          exact name_some h2
        have e1 : hasM m = 116 := by simp [hasM, e, hasOf]
        rw [e1] at pn po pw
        obtain ⟨n1, n2, n3⟩ := po (by decide)
        have n4 := pw (by decide)
        exact ⟨⟨by omega, by rw [n1]; simp, by rw [n2]; decide, by rw [n2]; decide, by rw [n3]; decide, by rw [n3]; decide, by rw [n4]; simp, by rw [n4]; simp⟩, by rw [n4]; simp⟩
      · have hnm : m.name.length ≤ 16 := by
          have e2 : ∃ r, bodyW m = join ((name []).wr m.name) r := by simp only [bodyW, e]; exact ⟨_, rfl⟩
          obtain ⟨r, e2⟩ := e2
          rw [e2] at hf
          obtain ⟨_, _, h2, _⟩ := join_some hf
          exact name_some h2
        have e1 : hasM m = 308 := by simp [hasM, e, hasOf]
        rw [e1] at pn po pw
        obtain ⟨n1, n2, n3⟩ := po (by decide)
        have n4 := pw (by decide)
        exact ⟨⟨by omega, by rw [n1]; simp, by rw [n2]; decide, by rw [n2]; decide, by rw [n3]; decide, by rw [n3]; decide, by rw [n4]; simp, by rw [n4]; simp⟩, by rw [n4]; simp⟩
      · have hnm : m.name.length ≤ 16 := by
          have e2 : ∃ r, bodyW m = join ((name []).wr m.name) r := by simp only [bodyW, e]; exact ⟨_, rfl⟩
          obtain ⟨r, e2⟩ := e2
          rw [e2] at hf
          obtain ⟨_, _, h2, _⟩ := join_some hf
          exact name_some h2
        have e1 : hasM m = 84 := by simp [hasM, e, hasOf]
        rw [e1] at pn po pw
        obtain ⟨n1, n2, n3⟩ := po (by decide)
        have n4 := pw (by decide)
        exact ⟨⟨by omega, by rw [n1]; simp, by rw [n2]; decide, by rw [n2]; decide, by rw [n3]; decide, by rw [n3]; decide, by rw [n4]; simp, by rw [n4]; simp⟩, by rw [n4]; simp⟩
      · have hnm : m.name.length ≤ 16 := by
          have e2 : ∃ r, bodyW m = join ((name []).wr m.name) r := by simp only [bodyW, e]; exact ⟨_, rfl⟩
          obtain ⟨r, e2⟩ := e2
          rw [e2] at hf
          obtain ⟨_, _, h2, _⟩ := join_some hf
          exact name_some h2
        have e1 : hasM m = 84 := by simp [hasM, e, hasOf]
        rw [e1] at pn po pw
        obtain ⟨n1, n2, n3⟩ := po (by decide)
        have n4 := pw (by decide)
        exact ⟨⟨by omega, by rw [n1]; simp, by rw [n2]; decide, by rw [n2]; decide, by rw [n3]; decide, by rw [n3]; decide, by rw [n4]; simp, by rw [n4]; simp⟩, by rw [n4]; simp⟩
      · have e2 : bodyW m = views.wr m.views := by simp [bodyW, e]
        rw [e2] at hf
        obtain ⟨v1, v2⟩ := views_some hf
        have e1 : hasM m = 512 := by simp [hasM, e, hasOf]
        rw [e1] at pn po
        have n4 := pn (by decide)
        obtain ⟨n1, n2, n3⟩ := po (by decide)
        exact ⟨⟨by rw [n4]; simp, by rw [n1]; simp, by rw [n2]; decide, by rw [n2]; decide, by rw [n3]; decide, by rw [n3]; decide, by omega, fun x hx => by have := v2 x hx; omega⟩, v1⟩
    · simp only [if_neg hb] at h; cases h
end Go.Proofs.Ytfgnlfemckdfnaa
