import GoSem.Op.String
namespace Go.Proofs.Ytfgnlfemckdfnaa
abbrev Res (α : Type) := Except Nat (α × Nat)
structure Codec (α : Type) where
  rd : List UInt8 → Res α
  wr : α → Option (List UInt8)
structure Lawful {α : Type} (c : Codec α) : Prop where
  back : ∀ l x k, c.rd l = .ok (x, k) → k ≤ l.length ∧ c.wr x = some (l.take k)
  forth : ∀ x bs, c.wr x = some bs → ∀ post, c.rd (bs ++ post) = .ok (x, bs.length)
  cut : ∀ x bs, c.wr x = some bs → ∀ k, k < bs.length → c.rd (bs.take k) = .error k
  place : ∀ l k, c.rd l = .error k → k ≤ l.length
def Codec.bind {α β : Type} (c : Codec α) (f : α → Codec β) : Codec (α × β) where
  rd l := match c.rd l with
    | .error k => .error k
    | .ok (a, k) => match (f a).rd (l.drop k) with
      | .error j => .error (k + j)
      | .ok (b, j) => .ok ((a, b), k + j)
  wr x := match c.wr x.1 with
    | none => none
    | some p => match (f x.1).wr x.2 with
      | none => none
      | some q => some (p ++ q)
def Codec.map {α β : Type} (c : Codec α) (f : α → β) (g : β → α) (ok : β → Bool) : Codec β where
  rd l := match c.rd l with
    | .error k => .error k
    | .ok (a, k) => .ok (f a, k)
  wr y := if ok y then c.wr (g y) else none
def Codec.unit : Codec Unit where
  rd _ := .ok ((), 0)
  wr _ := some []
theorem Lawful.bind {α β : Type} {c : Codec α} {f : α → Codec β} (hc : Lawful c) (hf : ∀ a, Lawful (f a)) : Lawful (c.bind f) where
  back l x k h := by
    simp only [Codec.bind] at h ⊢
    cases h1 : c.rd l with
    | error e => rw [h1] at h; cases h
    | ok v =>
      obtain ⟨a, n⟩ := v
      rw [h1] at h
      simp only at h
      cases h2 : (f a).rd (l.drop n) with
      | error e => rw [h2] at h; cases h
      | ok v =>
        obtain ⟨b, j⟩ := v
        rw [h2] at h
        simp only [Except.ok.injEq, Prod.mk.injEq] at h
        obtain ⟨rfl, rfl⟩ := h
        obtain ⟨l1, w1⟩ := hc.back _ _ _ h1
        obtain ⟨l2, w2⟩ := (hf a).back _ _ _ h2
        simp only [List.length_drop] at l2
        refine ⟨by omega, ?_⟩
        rw [w1]
        simp only
        rw [w2]
        simp only
        rw [List.take_add]
  forth x bs h post := by
    simp only [Codec.bind] at h ⊢
    cases h1 : c.wr x.1 with
    | none => rw [h1] at h; cases h
    | some p =>
      rw [h1] at h
      simp only at h
      cases h2 : (f x.1).wr x.2 with
      | none => rw [h2] at h; cases h
      | some q =>
        rw [h2] at h
        simp only [Option.some.injEq] at h
        subst h
        rw [List.append_assoc, hc.forth _ _ h1]
        simp only
        rw [List.drop_left, (hf _).forth _ _ h2]
        simp
  cut x bs h k hk := by
    simp only [Codec.bind] at h ⊢
    cases h1 : c.wr x.1 with
    | none => rw [h1] at h; cases h
    | some p =>
      rw [h1] at h
      simp only at h
      cases h2 : (f x.1).wr x.2 with
      | none => rw [h2] at h; cases h
      | some q =>
        rw [h2] at h
        simp only [Option.some.injEq] at h
        subst h
        by_cases hp : k < p.length
        · rw [List.take_append_of_le_length (by omega), hc.cut _ _ h1 _ hp]
        · have e : (p ++ q).take k = p ++ q.take (k - p.length) := by
            rw [List.take_append]; rw [List.take_of_length_le (by omega)]
          simp only [List.length_append] at hk
          rw [e, hc.forth _ _ h1]
          simp only
          rw [List.drop_left, (hf _).cut _ _ h2 _ (by omega)]
          simp only
          congr 1
          omega
  place l k h := by
    simp only [Codec.bind] at h
    cases h1 : c.rd l with
    | error e => rw [h1] at h; cases h; exact hc.place _ _ h1
    | ok v =>
      obtain ⟨a, n⟩ := v
      rw [h1] at h
      simp only at h
      have l1 := (hc.back _ _ _ h1).1
      cases h2 : (f a).rd (l.drop n) with
      | error e =>
        rw [h2] at h
        simp only [Except.error.injEq] at h
        have := (hf a).place _ _ h2
        simp only [List.length_drop] at this
        omega
      | ok v => rw [h2] at h; cases h
theorem Lawful.map {α β : Type} {c : Codec α} (hc : Lawful c) (f : α → β) (g : β → α) (ok : β → Bool)
    (h1 : ∀ a bs, c.wr a = some bs → ok (f a) = true ∧ g (f a) = a) (h2 : ∀ y, ok y = true → (c.wr (g y)).isSome = true → f (g y) = y) : Lawful (c.map f g ok) where
  back l x k h := by
    simp only [Codec.map] at h ⊢
    cases e : c.rd l with
    | error e1 => rw [e] at h; cases h
    | ok v =>
      obtain ⟨a, n⟩ := v
      rw [e] at h
      simp only [Except.ok.injEq, Prod.mk.injEq] at h
      obtain ⟨rfl, rfl⟩ := h
      obtain ⟨l1, w1⟩ := hc.back _ _ _ e
      obtain ⟨o1, o2⟩ := h1 _ _ w1
      refine ⟨l1, ?_⟩
      rw [if_pos o1, o2, w1]
  forth x bs h post := by
    simp only [Codec.map] at h ⊢
    split at h
    · rename_i ho
      rw [hc.forth _ _ h]
      simp only
      rw [h2 x ho (by rw [h]; rfl)]
    · cases h
  cut x bs h k hk := by
    simp only [Codec.map] at h ⊢
    split at h
    · rw [hc.cut _ _ h _ hk]
    · cases h
  place l k h := by
    simp only [Codec.map] at h
    cases e : c.rd l with
    | error e1 => rw [e] at h; cases h; exact hc.place _ _ e
    | ok v => rw [e] at h; cases h
theorem Lawful.unit : Lawful Codec.unit where
  back l x k h := by
    simp only [Codec.unit, Except.ok.injEq, Prod.mk.injEq] at h ⊢
    obtain ⟨_, rfl⟩ := h
    exact ⟨Nat.zero_le _, rfl⟩
  forth x bs h post := by
    simp only [Codec.unit, Option.some.injEq] at h ⊢
    subst h; rfl
  cut x bs h k hk := by
    simp only [Codec.unit, Option.some.injEq] at h
    subst h; simp at hk
  place l k h := by simp [Codec.unit] at h
/- NUMBERS -/
def digits : Nat → List UInt8 → Option (List UInt8)
  | 0, _ => some []
  | _ + 1, [] => none
  | f + 1, b :: l => if b.toNat < 128 then some [b] else match digits f l with
    | none => none
    | some ds => some (b :: ds)
def val : List UInt8 → Nat
  | [] => 0
  | b :: l => b.toNat % 128 + 128 * val l
def lastOf : List UInt8 → Nat
  | [] => 128
  | b :: l => match l with
    | [] => b.toNat
    | _ :: _ => lastOf l
def right (ds : List UInt8) : Bool := !(decide (1 < ds.length) && lastOf ds == 0) && !(ds.length == 10 && lastOf ds != 1)
def putF : Nat → Nat → List UInt8
  | 0, _ => []
  | f + 1, n => if n < 128 then [UInt8.ofNat n] else UInt8.ofNat (n % 128 + 128) :: putF f (n / 128)
def put (n : Nat) : List UInt8 := putF 10 n
def raw : Codec Nat where
  rd l := match digits 10 l with
    | none => .error l.length
    | some ds => if right ds then .ok (val ds, ds.length) else .error 0
  wr n := if n < 2 ^ 64 then some (put n) else none
theorem digits_take : ∀ (f : Nat) (l ds : List UInt8), digits f l = some ds → ds.length ≤ l.length ∧ ds = l.take ds.length ∧ ds.length ≤ f := by
  intro f
  induction f with
  | zero => intro l ds h; simp only [digits, Option.some.injEq] at h; subst h; simp
  | succ f ih =>
    intro l ds h
    cases l with
    | nil => cases h
    | cons b l =>
      simp only [digits] at h
      split at h
      · simp only [Option.some.injEq] at h; subst h; simp
      · cases e : digits f l with
        | none => rw [e] at h; cases h
        | some cs =>
          rw [e] at h
          simp only [Option.some.injEq] at h
          subst h
          obtain ⟨h1, h2, h3⟩ := ih _ _ e
          simp only [List.length_cons, List.take_succ_cons]
          exact ⟨by omega, by rw [← h2], by omega⟩
theorem u8_of_lt {n : Nat} (h : n < 256) : (UInt8.ofNat n).toNat = n := by simp; omega
theorem u8_eq {a b : UInt8} (h : a.toNat = b.toNat) : a = b := UInt8.toNat_inj.1 h
theorem putF_val : ∀ (f : Nat) (l ds : List UInt8), digits f l = some ds → ds ≠ [] → lastOf ds < 128 → (1 < ds.length → lastOf ds ≠ 0) → putF f (val ds) = ds := by
  intro f
  induction f with
  | zero => intro l ds h h0; simp only [digits, Option.some.injEq] at h; exact absurd h.symm h0
  | succ f ih =>
    intro l ds h h0 h1 h2
    cases l with
    | nil => cases h
    | cons b l =>
      simp only [digits] at h
      split at h
      · rename_i hb
        simp only [Option.some.injEq] at h; subst h
        have hv : val [b] = b.toNat := by simp only [val]; omega
        rw [hv]
        simp only [putF]
        rw [if_pos hb]
        congr 1
        apply u8_eq
        rw [u8_of_lt (by omega)]
      · rename_i hb
        cases e : digits f l with
        | none => rw [e] at h; cases h
        | some cs =>
          rw [e] at h
          simp only [Option.some.injEq] at h
          subst h
          have hlt := UInt8.toNat_lt b
          cases cs with
          | nil => simp only [lastOf] at h1; omega
          | cons c cs =>
            have hl : lastOf (b :: c :: cs) = lastOf (c :: cs) := rfl
            rw [hl] at h1 h2
            have h2' := h2 (by simp)
            have := ih l (c :: cs) e (by simp) h1 (fun _ => h2')
            have hv : 0 < val (c :: cs) := by
              have this2 : ∀ (cs : List UInt8) (c : UInt8), lastOf (c :: cs) ≠ 0 → lastOf (c :: cs) < 128 ∨ True → (lastOf (c :: cs) < 128 → 0 < val (c :: cs)) := by
                intro cs
                induction cs with
                | nil => intro c h _ h3; simp only [lastOf] at h h3; simp only [val]; omega
                | cons d cs ih => intro c h _ h3; have := ih d h (Or.inr trivial) h3; simp only [val] at this ⊢; omega
              exact this2 cs c h2' (Or.inr trivial) h1
            rw [show val (b :: c :: cs) = b.toNat % 128 + 128 * val (c :: cs) from rfl]
            simp only [putF]
            rw [if_neg (by omega)]
            congr 1
            · apply u8_eq
              rw [u8_of_lt (by omega)]
              omega
            · rw [show (b.toNat % 128 + 128 * val (c :: cs)) / 128 = val (c :: cs) from by omega]
              exact this
theorem val_split : ∀ (ds : List UInt8) (k : Nat), val ds = val (ds.take k) + 128 ^ k * val (ds.drop k) := by
  intro ds
  induction ds with
  | nil => intro k; simp [val]
  | cons b ds ih =>
    intro k
    cases k with
    | zero => simp [val]
    | succ k =>
      simp only [List.take_succ_cons, List.drop_succ_cons, val]
      rw [ih k, Nat.pow_succ, Nat.mul_add]
      rw [show 128 ^ k * 128 * val (ds.drop k) = 128 * (128 ^ k * val (ds.drop k)) from by rw [Nat.mul_comm (128 ^ k) 128, Nat.mul_assoc]]
      omega
theorem val_lt : ∀ (ds : List UInt8), val ds < 128 ^ ds.length := by
  intro ds
  induction ds with
  | nil => simp [val]
  | cons b ds ih => simp only [val, List.length_cons, Nat.pow_succ]; omega
theorem last_get : ∀ (ds : List UInt8) (b : UInt8), ds[ds.length - 1]? = some b → lastOf ds = b.toNat := by
  intro ds
  induction ds with
  | nil => intro b h; simp at h
  | cons c ds ih =>
    intro b h
    cases ds with
    | nil => simp at h; subst h; rfl
    | cons d ds => exact ih b (by simpa using h)
theorem last_some (ds : List UInt8) (h : ds ≠ []) : ∃ b : UInt8, ds[ds.length - 1]? = some b ∧ lastOf ds = b.toNat ∧ ds = ds.take (ds.length - 1) ++ [b] := by
  have hl : 0 < ds.length := List.length_pos_iff.2 h
  refine ⟨ds[ds.length - 1]'(by omega), List.getElem?_eq_getElem _, last_get _ _ (List.getElem?_eq_getElem _), ?_⟩
  rw [List.take_append_getElem (by omega)]
  rw [List.take_of_length_le (by omega)]
theorem val_ten (ds : List UInt8) (h : ds.length = 10) (h1 : lastOf ds = 1) : val ds = val (ds.take 9) + 2 ^ 63 := by
  obtain ⟨b, _, hb, he⟩ := last_some ds (by intro e; rw [e] at h; simp at h)
  rw [val_split ds 9]
  have : ds.drop 9 = [b] := by
    rw [he, h]
    rw [List.drop_append_of_le_length (by simp; omega)]
    simp
  rw [this]
  simp only [val]
  rw [← hb, h1]
theorem digits_last : ∀ (f : Nat) (l ds : List UInt8), digits f l = some ds → ds.length < f → lastOf ds < 128 ∧ ds ≠ [] := by
  intro f
  induction f with
  | zero => intro l ds h hl; omega
  | succ f ih =>
    intro l ds h hl
    cases l with
    | nil => cases h
    | cons b l =>
      simp only [digits] at h
      split at h
      · simp only [Option.some.injEq] at h; subst h; simp only [lastOf]; exact ⟨by omega, by simp⟩
      · cases e : digits f l with
        | none => rw [e] at h; cases h
        | some cs =>
          rw [e] at h
          simp only [Option.some.injEq] at h
          subst h
          simp only [List.length_cons] at hl
          obtain ⟨h1, h2⟩ := ih _ _ e (by omega)
          cases cs with
          | nil => exact absurd rfl h2
          | cons c cs => exact ⟨h1, by simp⟩
theorem raw_back (l ds : List UInt8) (h : digits 10 l = some ds) (hr : right ds = true) : val ds < 2 ^ 64 ∧ put (val ds) = ds := by
  obtain ⟨h1, h2, h3⟩ := digits_take _ _ _ h
  simp only [right, Bool.and_eq_true, Bool.not_eq_true', Bool.and_eq_false_iff, decide_eq_false_iff_not, beq_eq_false_iff_ne, bne_eq_false_iff_eq] at hr
  by_cases h10 : ds.length = 10
  · have hl : lastOf ds = 1 := by rcases hr.2 with h | h; exact absurd h10 h; exact h
    have hne : ds ≠ [] := by intro e; rw [e] at h10; simp at h10
    refine ⟨?_, putF_val _ _ _ h hne (by omega) (fun _ => by omega)⟩
    rw [val_ten ds h10 hl]
    have := val_lt (ds.take 9)
    simp only [List.length_take] at this
    rw [h10] at this
    simp only [Nat.reducePow, Nat.reduceLeDiff, Nat.min_eq_left] at this ⊢
    omega
  · obtain ⟨hl, hne⟩ := digits_last _ _ _ h (by omega)
    refine ⟨?_, putF_val _ _ _ h hne hl (fun hh => by rcases hr.1 with h | h; exact absurd hh h; exact h)⟩
    have := val_lt ds
    have hm : 128 ^ ds.length ≤ 128 ^ 9 := Nat.pow_le_pow_right (by omega) (by omega)
    have : (128 : Nat) ^ 9 < 2 ^ 64 := by decide
    omega
theorem putF_facts : ∀ (f n : Nat), n < 128 ^ f → 0 < f → putF f n ≠ [] ∧ val (putF f n) = n ∧ lastOf (putF f n) < 128 ∧ (1 < (putF f n).length → lastOf (putF f n) ≠ 0) ∧ (putF f n).length ≤ f ∧
    (∀ post, digits f (putF f n ++ post) = some (putF f n)) ∧ (∀ k, k < (putF f n).length → digits f ((putF f n).take k) = none) ∧ (∀ k, n < 128 ^ k → 0 < k → (putF f n).length ≤ k) := by
  intro f
  induction f with
  | zero => intro n h h0; omega
  | succ f ih =>
    intro n h _
    simp only [putF]
    split
    · rename_i hn
      have e := u8_of_lt (show n < 256 from by omega)
      refine ⟨by simp, by simp only [val, e]; omega, by simp only [lastOf, e]; omega, by simp, by simp, fun post => ?_, fun k hk => ?_, fun k _ hk => by simp; omega⟩
      · simp only [List.singleton_append, digits, e, if_pos hn]
      · simp only [List.length_singleton] at hk
        obtain rfl : k = 0 := by omega
        rfl
    · rename_i hn
      rw [Nat.pow_succ] at h
      have hf : 0 < f := by
        rcases Nat.eq_zero_or_pos f with rfl | h0
        · simp at h; omega
        · exact h0
      obtain ⟨i1, i2, i3, i4, i5, i6, i7, i8⟩ := ih (n / 128) (by omega) hf
      have e := u8_of_lt (show n % 128 + 128 < 256 from by omega)
      generalize hc : UInt8.ofNat (n % 128 + 128) = c at *
      generalize hp : putF f (n / 128) = p at *
      have hl : lastOf (c :: p) = lastOf p := by
        cases p with
        | nil => exact absurd rfl i1
        | cons d p => rfl
      have hnz : lastOf p ≠ 0 := by
        by_cases h1 : 1 < p.length
        · exact i4 h1
        · cases p with
          | nil => exact absurd rfl i1
          | cons d p =>
            have : p = [] := by
              cases p with
              | nil => rfl
              | cons _ _ => simp at h1
            subst this
            simp only [val, lastOf] at i2 ⊢
            omega
      refine ⟨by simp, by simp only [val]; omega, by rw [hl]; exact i3, fun _ => by rw [hl]; exact hnz, by simp; omega, fun post => ?_, fun k hk => ?_, fun k hk h0 => ?_⟩
      · simp only [List.cons_append, digits]
        rw [if_neg (by omega), i6]
      · cases k with
        | zero => rfl
        | succ k =>
          simp only [List.take_succ_cons, digits]
          rw [if_neg (by omega), i7 k (by simp at hk; omega)]
      · cases k with
        | zero => omega
        | succ k =>
          rw [Nat.pow_succ] at hk
          have hk0 : 0 < k := by
            rcases Nat.eq_zero_or_pos k with rfl | h0
            · simp at hk; omega
            · exact h0
          have := i8 k (by omega) hk0
          simp; omega
theorem put_right (n : Nat) (h : n < 2 ^ 64) : right (put n) = true ∧ val (put n) = n := by
  obtain ⟨i1, i2, i3, i4, i5, i6, i7, i8⟩ := putF_facts 10 n (by have : (2 : Nat) ^ 64 < 128 ^ 10 := by decide
                                                                 omega) (by omega)
  refine ⟨?_, i2⟩
  unfold put at *
  simp only [right, Bool.and_eq_true, Bool.not_eq_true', Bool.and_eq_false_iff, decide_eq_false_iff_not, beq_eq_false_iff_ne, bne_eq_false_iff_eq]
  refine ⟨?_, ?_⟩
  · by_cases h1 : 1 < (putF 10 n).length
    · exact Or.inr (i4 h1)
    · exact Or.inl h1
  · by_cases h1 : (putF 10 n).length = 10
    · right
      have h2 := i4 (by omega)
      by_cases h3 : 2 ≤ lastOf (putF 10 n)
      · exfalso
        obtain ⟨b, _, hb, he⟩ := last_some _ i1
        have hv := val_split (putF 10 n) 9
        rw [i2] at hv
        have : (putF 10 n).drop 9 = [b] := by
          rw [he, h1]
          rw [List.drop_append_of_le_length (by simp; omega)]
          simp
        rw [this] at hv
        simp only [val] at hv
        rw [← hb] at hv
        have : (128 : Nat) ^ 9 = 2 ^ 63 := by decide
        rw [this] at hv
        have e2 : lastOf (putF 10 n) % 128 = lastOf (putF 10 n) := Nat.mod_eq_of_lt i3
        rw [e2] at hv
        have : 2 ^ 63 * 2 ≤ 2 ^ 63 * lastOf (putF 10 n) := Nat.mul_le_mul_left _ h3
        have e3 : (2 : Nat) ^ 64 = 2 ^ 63 * 2 := by decide
        omega
      · omega
    · exact Or.inl h1
theorem put_len (n : Nat) (h : n < 2 ^ 64) : 0 < (put n).length ∧ (put n).length ≤ 10 ∧ ∀ k, n < 128 ^ k → 0 < k → (put n).length ≤ k := by
  obtain ⟨i1, i2, i3, i4, i5, i6, i7, i8⟩ := putF_facts 10 n (by have : (2 : Nat) ^ 64 < 128 ^ 10 := by decide
                                                                 omega) (by omega)
  exact ⟨List.length_pos_iff.2 i1, i5, i8⟩
theorem law_raw : Lawful raw where
  back l x k h := by
    simp only [raw] at h ⊢
    cases e : digits 10 l with
    | none => rw [e] at h; cases h
    | some ds =>
      rw [e] at h
      simp only at h
      split at h
      · rename_i hr
        simp only [Except.ok.injEq, Prod.mk.injEq] at h
        obtain ⟨rfl, rfl⟩ := h
        obtain ⟨h1, h2⟩ := raw_back _ _ e hr
        obtain ⟨h3, h4, _⟩ := digits_take _ _ _ e
        refine ⟨h3, ?_⟩
        rw [if_pos h1, h2, ← h4]
      · cases h
  forth x bs h post := by
    simp only [raw] at h ⊢
    split at h
    · rename_i hx
      simp only [Option.some.injEq] at h
      subst h
      obtain ⟨i1, i2, i3, i4, i5, i6, i7, i8⟩ := putF_facts 10 x (by have : (2 : Nat) ^ 64 < 128 ^ 10 := by decide
                                                                     omega) (by omega)
      obtain ⟨h1, h2⟩ := put_right x hx
      unfold put at *
      rw [i6 post]
      simp only [h1, if_true, h2]
    · cases h
  cut x bs h k hk := by
    simp only [raw] at h ⊢
    split at h
    · rename_i hx
      simp only [Option.some.injEq] at h
      subst h
      obtain ⟨i1, i2, i3, i4, i5, i6, i7, i8⟩ := putF_facts 10 x (by have : (2 : Nat) ^ 64 < 128 ^ 10 := by decide
                                                                     omega) (by omega)
      unfold put at *
      rw [i7 k hk]
      simp only [List.length_take, Except.error.injEq]
      omega
    · cases h
  place l k h := by
    simp only [raw] at h
    cases e : digits 10 l with
    | none => rw [e] at h; simp only [Except.error.injEq] at h; omega
    | some ds =>
      rw [e] at h
      simp only at h
      split at h
      · cases h
      · simp only [Except.error.injEq] at h; omega
end Go.Proofs.Ytfgnlfemckdfnaa
namespace Go.Proofs.Ytfgnlfemckdfnaa
def Codec.guard {α : Type} (c : Codec α) (p : α → Bool) : Codec α where
  rd l := match c.rd l with
    | .error k => .error k
    | .ok (a, k) => if p a then .ok (a, k) else .error 0
  wr a := if p a then c.wr a else none
theorem Lawful.guard {α : Type} {c : Codec α} (hc : Lawful c) (p : α → Bool) : Lawful (c.guard p) where
  back l x k h := by
    simp only [Codec.guard] at h ⊢
    cases e : c.rd l with
    | error e1 => rw [e] at h; cases h
    | ok v =>
      obtain ⟨a, n⟩ := v
      rw [e] at h
      simp only at h
      split at h
      · rename_i hp
        simp only [Except.ok.injEq, Prod.mk.injEq] at h
        obtain ⟨rfl, rfl⟩ := h
        rw [if_pos hp]
        exact hc.back _ _ _ e
      · cases h
  forth x bs h post := by
    simp only [Codec.guard] at h ⊢
    split at h
    · rename_i hp
      rw [hc.forth _ _ h]
      simp only [hp, if_true]
    · cases h
  cut x bs h k hk := by
    simp only [Codec.guard] at h ⊢
    split at h
    · rw [hc.cut _ _ h _ hk]
    · cases h
  place l k h := by
    simp only [Codec.guard] at h
    cases e : c.rd l with
    | error e1 => rw [e] at h; cases h; exact hc.place _ _ e
    | ok v =>
      obtain ⟨a, n⟩ := v
      rw [e] at h
      simp only at h
      split at h
      · cases h
      · cases h; omega
def num (lo hi : Nat) : Codec Int where
  rd l := match raw.rd l with
    | .error k => .error k
    | .ok (n, k) => if decide (lo ≤ n) && decide (n ≤ hi) then .ok ((n : Int), k) else .error 0
  wr v := if decide ((lo : Int) ≤ v) && decide (v ≤ (hi : Int)) then some (put v.toNat) else none
theorem law_num (lo hi : Nat) (hh : hi < 2 ^ 64) : Lawful (num lo hi) := by
  have h := ((law_raw.guard (fun n => decide (lo ≤ n) && decide (n ≤ hi))).map (fun n => (n : Int)) (fun v => v.toNat) (fun v => decide ((lo : Int) ≤ v) && decide (v ≤ (hi : Int)))
    (fun a bs h => by
      simp only [Codec.guard] at h
      split at h
      · rename_i hp
        simp only [Bool.and_eq_true, decide_eq_true_eq] at hp ⊢
        refine ⟨⟨by omega, by omega⟩, by simp⟩
      · cases h)
    (fun y hy _ => by
      simp only [Bool.and_eq_true, decide_eq_true_eq] at hy
      simp only [Int.toNat_of_nonneg (show 0 ≤ y from by omega)]))
  have e : (num lo hi) = ((raw.guard (fun n => decide (lo ≤ n) && decide (n ≤ hi))).map (fun n => (n : Int)) (fun v => v.toNat) (fun v => decide ((lo : Int) ≤ v) && decide (v ≤ (hi : Int)))) := by
    unfold num Codec.map Codec.guard
    congr 1
    · funext l
      simp only
      cases h : raw.rd l with
      | error k => rfl
      | ok v =>
        obtain ⟨n, k⟩ := v
        simp only
        by_cases hp : (decide (lo ≤ n) && decide (n ≤ hi)) = true
        · simp only [if_pos hp]
        · simp only [if_neg hp]
    · funext v
      split
      · rename_i hv
        simp only [Bool.and_eq_true, decide_eq_true_eq] at hv
        have h1 : (decide (lo ≤ v.toNat) && decide (v.toNat ≤ hi)) = true := by simp only [Bool.and_eq_true, decide_eq_true_eq]; omega
        simp only [h1, if_true, raw]
        rw [if_pos (by omega)]
      · rfl
  rw [e]
  exact h
def unzig (n : Nat) : Int := if n % 2 = 0 then ((n / 2 : Nat) : Int) else -((n / 2 : Nat) : Int) - 1
def zig (v : Int) : Nat := if 0 ≤ v then (2 * v).toNat else (-2 * v - 1).toNat
def signed : Codec Int where
  rd l := match raw.rd l with
    | .error k => .error k
    | .ok (n, k) => .ok (unzig n, k)
  wr v := if decide ((-9223372036854775808 : Int) ≤ v) && decide (v < (9223372036854775808 : Int)) then some (put (zig v)) else none
theorem zig_lt (v : Int) (h1 : (-9223372036854775808 : Int) ≤ v) (h2 : v < (9223372036854775808 : Int)) : zig v < 2 ^ 64 := by
  unfold zig; split <;> omega
theorem unzig_zig (v : Int) : unzig (zig v) = v := by
  unfold unzig zig; split <;> split <;> omega
theorem zig_unzig (n : Nat) : zig (unzig n) = n := by
  unfold unzig zig; split <;> split <;> omega
theorem law_signed : Lawful signed := by
  have h := (law_raw.map unzig zig (fun v => decide ((-9223372036854775808 : Int) ≤ v) && decide (v < (9223372036854775808 : Int)))
    (fun a bs h => by
      simp only [raw] at h
      split at h
      · rename_i ha
        refine ⟨?_, zig_unzig a⟩
        simp only [Bool.and_eq_true, decide_eq_true_eq]
        unfold unzig
        split <;> constructor <;> omega
      · cases h)
    (fun y _ _ => unzig_zig y))
  have e : signed = (raw.map unzig zig (fun v => decide ((-9223372036854775808 : Int) ≤ v) && decide (v < (9223372036854775808 : Int)))) := by
    unfold signed Codec.map
    congr 1
    · funext l
      cases h : raw.rd l with
      | error k => rfl
      | ok v => rfl
    · funext v
      split
      · rename_i hv
        simp only [Bool.and_eq_true, decide_eq_true_eq] at hv
        simp only [raw]
        rw [if_pos (zig_lt v hv.1 hv.2)]
      · rfl
  rw [e]
  exact h
def some' (n : Nat) : Codec (List UInt8) where
  rd l := if l.length < n then .error l.length else .ok (l.take n, n)
  wr s := if s.length = n then some s else none
theorem law_some' (n : Nat) : Lawful (some' n) where
  back l x k h := by
    simp only [some'] at h ⊢
    split at h
    · cases h
    · simp only [Except.ok.injEq, Prod.mk.injEq] at h
      obtain ⟨rfl, rfl⟩ := h
      refine ⟨by omega, ?_⟩
      rw [if_pos (by simp; omega)]
  forth x bs h post := by
    simp only [some'] at h ⊢
    split at h
    · rename_i hn
      cases h
      rw [if_neg (by simp; omega), ← hn]
      simp
    · cases h
  cut x bs h k hk := by
    simp only [some'] at h ⊢
    split at h
    · rename_i hn
      cases h
      rw [if_pos (by simp; omega)]
      simp only [List.length_take, Except.error.injEq]
      omega
    · cases h
  place l k h := by
    simp only [some'] at h
    split at h
    · cases h; omega
    · cases h
def gt (s a : List UInt8) : Bool := !(Op.bytesLess s a || s == a)
def fair (u : UInt8) : Bool := decide (33 ≤ u.toNat) && decide (u.toNat ≤ 126)
def good (above s : List UInt8) : Bool := s.all fair && gt s above
def text (above : List UInt8) (n : Nat) : Codec (List UInt8) := (some' n).guard (good above)
def name (above : List UInt8) : Codec (List UInt8) := ((num 1 16).bind (fun n => text above n.toNat)).map (fun x => x.2) (fun s => ((s.length : Int), s)) (fun _ => true)
theorem law_name (above : List UInt8) : Lawful (name above) := by
  refine ((law_num 1 16 (by decide)).bind (fun n => (law_some' n.toNat).guard (good above))).map _ _ _ (fun a bs h => ⟨rfl, ?_⟩) (fun y _ _ => rfl)
  obtain ⟨n, s⟩ := a
  simp only [Codec.bind, num, Codec.guard, some'] at h
  split at h
  · cases h
  · rename_i p hp
    split at hp
    · rename_i hn
      simp only [Bool.and_eq_true, decide_eq_true_eq] at hn
      split at h
      · cases h
      · rename_i q hq
        split at hq
        · split at hq
          · rename_i hs
            simp only [Prod.mk.injEq, and_true]
            omega
          · cases hq
        · cases hq
    · cases hp
def maxN : Nat := 1099511627776
def pair {α β : Type} (c : Codec α) (d : Codec β) : Codec (α × β) := c.bind (fun _ => d)
theorem Lawful.pair {α β : Type} {c : Codec α} {d : Codec β} (hc : Lawful c) (hd : Lawful d) : Lawful (pair c d) := hc.bind (fun _ => hd)
def caps : Codec (Int × Int) := pair (num 1 maxN) (num 0 maxN)
def epoch : Codec (Int × Int) := pair (num 1 maxN) (num 0 15)
def rights : Codec (Int × Int) := pair (num 0 maxN) (num 0 maxN)
def held : Codec Int := num 0 maxN
def call : Codec (Int × Int) := pair (num 0 63) (num 1 maxN)
def op : Codec (Int × List UInt8 × Int × Int) := pair (num 1 11) (pair (name []) (pair signed signed))
def errno : Codec Int := num 0 255
theorem law_caps : Lawful caps := (law_num _ _ (by decide)).pair (law_num _ _ (by decide))
theorem law_epoch : Lawful epoch := (law_num _ _ (by decide)).pair (law_num _ _ (by decide))
theorem law_rights : Lawful rights := (law_num _ _ (by decide)).pair (law_num _ _ (by decide))
theorem law_held : Lawful held := law_num _ _ (by decide)
theorem law_call : Lawful call := (law_num _ _ (by decide)).pair (law_num _ _ (by decide))
theorem law_op : Lawful op := (law_num _ _ (by decide)).pair ((law_name _).pair (law_signed.pair law_signed))
theorem law_errno : Lawful errno := law_num _ _ (by decide)
structure View where
  name : List UInt8
  cap : Int
  recaps : Int
  version : Int
  down : Int
  up : Int
  held : Int
def view (above : List UInt8) : Codec View :=
  (pair (name above) (pair caps (pair (num 0 maxN) (pair rights held)))).map
    (fun x => ⟨x.1, x.2.1.1, x.2.1.2, x.2.2.1, x.2.2.2.1.1, x.2.2.2.1.2, x.2.2.2.2⟩)
    (fun v => (v.name, (v.cap, v.recaps), v.version, (v.down, v.up), v.held)) (fun _ => true)
theorem law_view (above : List UInt8) : Lawful (view above) :=
  ((law_name _).pair (law_caps.pair ((law_num _ _ (by decide)).pair (law_rights.pair law_held)))).map _ _ _ (fun _ _ _ => ⟨rfl, rfl⟩) (fun _ _ _ => rfl)
def viewList : Nat → List UInt8 → Codec (List View)
  | 0, _ => Codec.unit.map (fun _ => []) (fun _ => ()) (fun l => l.isEmpty)
  | n + 1, above => ((view above).bind (fun v => viewList n v.name)).map (fun x => x.1 :: x.2) (fun l => match l with | [] => (⟨[], 0, 0, 0, 0, 0, 0⟩, []) | v :: r => (v, r)) (fun l => !l.isEmpty)
theorem law_viewList : ∀ (n : Nat) (above : List UInt8), Lawful (viewList n above) := by
  intro n
  induction n with
  | zero =>
    intro above
    refine Lawful.unit.map _ _ _ (fun _ _ _ => ⟨rfl, rfl⟩) (fun y hy _ => ?_)
    cases y with
    | nil => rfl
    | cons _ _ => cases hy
  | succ n ih =>
    intro above
    refine ((law_view above).bind (fun v => ih v.name)).map _ _ _ (fun _ _ _ => ⟨rfl, rfl⟩) (fun y hy _ => ?_)
    cases y with
    | nil => cases hy
    | cons _ _ => rfl
theorem viewList_len : ∀ (n : Nat) (above : List UInt8) (l : List View) (bs : List UInt8), (viewList n above).wr l = some bs → l.length = n := by
  intro n
  induction n with
  | zero =>
    intro above l bs h
    simp only [viewList, Codec.map] at h
    cases l with
    | nil => rfl
    | cons _ _ => cases h
  | succ n ih =>
    intro above l bs h
    simp only [viewList, Codec.map] at h
    cases l with
    | nil => cases h
    | cons v r =>
      simp only [Codec.bind, List.isEmpty_cons, Bool.not_false, if_true] at h
      split at h
      · cases h
      · split at h
        · cases h
        · rename_i hq
          simp only [List.length_cons]
          rw [ih _ _ _ hq]
def views : Codec (List View) := ((num 0 64).bind (fun n => viewList n.toNat [])).map (fun x => x.2) (fun l => ((l.length : Int), l)) (fun _ => true)
theorem law_views : Lawful views := by
  refine ((law_num 0 64 (by decide)).bind (fun n => law_viewList n.toNat [])).map _ _ _ (fun a bs h => ⟨rfl, ?_⟩) (fun y _ _ => rfl)
  obtain ⟨n, s⟩ := a
  simp only [Codec.bind, num] at h
  split at h
  · cases h
  · rename_i p hp
    split at hp
    · rename_i hn
      simp only [Bool.and_eq_true, decide_eq_true_eq] at hn
      split at h
      · cases h
      · rename_i q hq
        have := viewList_len _ _ _ _ hq
        simp only [Prod.mk.injEq, and_true]
        omega
    · cases hp
/- SEGMENTS, REQUESTS, REPLIES -/
structure Seg where
  src : Int
  dst : Int
  seq : Int
  ack : Int
  data : List UInt8
def lowOf (seq : Int) : Nat := if seq = 0 then 0 else 1
def highOf (seq : Int) : Nat := if seq = 0 then 0 else 4000
def dataC (seq : Int) : Codec (List UInt8) := ((num (lowOf seq) (highOf seq)).bind (fun n => some' n.toNat)).map (fun x => x.2) (fun s => ((s.length : Int), s)) (fun _ => true)
theorem law_dataC (seq : Int) : Lawful (dataC seq) := by
  refine ((law_num _ _ (by unfold highOf; split <;> decide)).bind (fun n => law_some' n.toNat)).map _ _ _ (fun a bs h => ⟨rfl, ?_⟩) (fun y _ _ => rfl)
  obtain ⟨n, s⟩ := a
  simp only [Codec.bind, num, some'] at h
  split at h
  · cases h
  · rename_i p hp
    split at hp
    · rename_i hn
      simp only [Bool.and_eq_true, decide_eq_true_eq] at hn
      split at h
      · cases h
      · rename_i q hq
        split at hq
        · simp only [Prod.mk.injEq, and_true]
          omega
        · cases hq
    · cases hp
def segment : Codec Seg := (pair (num 0 15) (pair (num 0 15) ((num 0 maxN).bind (fun q => pair (num 0 maxN) (dataC q))))).map
  (fun x => ⟨x.1, x.2.1, x.2.2.1, x.2.2.2.1, x.2.2.2.2⟩) (fun s => (s.src, s.dst, s.seq, s.ack, s.data)) (fun _ => true)
theorem law_segment : Lawful segment :=
  ((law_num _ _ (by decide)).pair ((law_num _ _ (by decide)).pair ((law_num _ _ (by decide)).bind (fun q => (law_num _ _ (by decide)).pair (law_dataC q))))).map _ _ _ (fun _ _ _ => ⟨rfl, rfl⟩) (fun _ _ _ => rfl)
def request : Codec ((Int × Int) × (Int × List UInt8 × Int × Int)) := pair call op
def reply : Codec ((Int × Int) × Int × Int) := pair call (pair errno signed)
structure Msg where
  kind : Int
  name : List UInt8
  cap : Int
  recaps : Int
  round : Int
  rank : Int
  oround : Int
  orank : Int
  down : Int
  up : Int
  held : Int
  session : Int
  id : Int
  okind : Int
  oname : List UInt8
  oa : Int
  ob : Int
  err : Int
  value : Int
  views : List View
def Msg.zero : Msg := ⟨0, [], 0, 0, 0, 0, 0, 0, 0, 0, 0, 0, 0, 0, [], 0, 0, 0, 0, []⟩
/- Which parts a message has. -/
def noCall (m : Msg) : Bool := m.session == 0 && m.id == 0
def noOp (m : Msg) : Bool := m.okind == 0 && m.oname == [] && m.oa == 0 && m.ob == 0
def noName (m : Msg) : Bool := m.name == []
def noErr (m : Msg) : Bool := m.err == 0
def noCap (m : Msg) : Bool := m.cap == 0 && m.recaps == 0
def noEpoch (m : Msg) : Bool := m.round == 0 && m.rank == 0
def noRights (m : Msg) : Bool := m.down == 0 && m.up == 0
def noHeld (m : Msg) : Bool := m.held == 0
def noOver (m : Msg) : Bool := m.oround == 0 && m.orank == 0
def noViews (m : Msg) : Bool := m.views.isEmpty
def parts (c o n e k p r h v w : Bool) (m : Msg) : Bool :=
  m.value == 0 && (c || noCall m) && (o || noOp m) && (n || noName m) && (e || noErr m) && (k || noCap m) && (p || noEpoch m) && (r || noRights m) && (h || noHeld m) && (v || noOver m) && (w || noViews m)
def hasCap (e : Int) : Bool := e == 0 || e == 101
def capsIf (e : Int) : Codec (Int × Int) := if hasCap e then caps else Codec.unit.map (fun _ => ((0 : Int), (0 : Int))) (fun _ => ()) (fun x => x.1 == 0 && x.2 == 0)
theorem law_capsIf (e : Int) : Lawful (capsIf e) := by
  unfold capsIf
  split
  · exact law_caps
  · refine Lawful.unit.map _ _ _ (fun _ _ _ => ⟨rfl, rfl⟩) (fun y hy _ => ?_)
    obtain ⟨a, b⟩ := y
    simp only [Bool.and_eq_true, beq_iff_eq] at hy
    simp [hy.1, hy.2]
def askC : Codec Msg := (pair call op).map
  (fun x => { Msg.zero with kind := 1, session := x.1.1, id := x.1.2, okind := x.2.1, oname := x.2.2.1, oa := x.2.2.2.1, ob := x.2.2.2.2 })
  (fun m => ((m.session, m.id), m.okind, m.oname, m.oa, m.ob)) (fun m => m.kind == 1 && parts true true false false false false false false false false m)
def toldC : Codec Msg := (pair call (pair (name []) (errno.bind (fun e => capsIf e)))).map
  (fun x => { Msg.zero with kind := 2, session := x.1.1, id := x.1.2, name := x.2.1, err := x.2.2.1, cap := x.2.2.2.1, recaps := x.2.2.2.2 })
  (fun m => ((m.session, m.id), m.name, m.err, m.cap, m.recaps)) (fun m => m.kind == 2 && parts true false true true true false false false false false m)
def markC : Codec Msg := (pair (name []) (pair caps epoch)).map
  (fun x => { Msg.zero with kind := 3, name := x.1, cap := x.2.1.1, recaps := x.2.1.2, round := x.2.2.1, rank := x.2.2.2 })
  (fun m => (m.name, (m.cap, m.recaps), m.round, m.rank)) (fun m => m.kind == 3 && parts false false true false true true false false false false m)
def yieldC : Codec Msg := (pair (name []) (pair caps (pair epoch (pair rights held)))).map
  (fun x => { Msg.zero with kind := 4, name := x.1, cap := x.2.1.1, recaps := x.2.1.2, round := x.2.2.1.1, rank := x.2.2.1.2, down := x.2.2.2.1.1, up := x.2.2.2.1.2, held := x.2.2.2.2 })
  (fun m => (m.name, (m.cap, m.recaps), (m.round, m.rank), (m.down, m.up), m.held)) (fun m => m.kind == 4 && parts false false true false true true true true false false m)
def grantC (k : Int) : Codec Msg := (pair (name []) (pair caps (pair epoch rights))).map
  (fun x => { Msg.zero with kind := k, name := x.1, cap := x.2.1.1, recaps := x.2.1.2, round := x.2.2.1.1, rank := x.2.2.1.2, down := x.2.2.2.1, up := x.2.2.2.2 })
  (fun m => (m.name, (m.cap, m.recaps), (m.round, m.rank), (m.down, m.up))) (fun m => m.kind == k && parts false false true false true true true false false false m)
def overC : Codec Msg := (pair (name []) (pair caps (pair epoch epoch))).map
  (fun x => { Msg.zero with kind := 7, name := x.1, cap := x.2.1.1, recaps := x.2.1.2, round := x.2.2.1.1, rank := x.2.2.1.2, oround := x.2.2.2.1, orank := x.2.2.2.2 })
  (fun m => (m.name, (m.cap, m.recaps), (m.round, m.rank), (m.oround, m.orank))) (fun m => m.kind == 7 && parts false false true false true true false false true false m)
def wantC (k : Int) : Codec Msg := (pair (name []) (pair caps rights)).map
  (fun x => { Msg.zero with kind := k, name := x.1, cap := x.2.1.1, recaps := x.2.1.2, down := x.2.2.1, up := x.2.2.2 })
  (fun m => (m.name, (m.cap, m.recaps), (m.down, m.up))) (fun m => m.kind == k && parts false false true false true false true false false false m)
def digestC : Codec Msg := views.map (fun x => { Msg.zero with kind := 10, views := x }) (fun m => m.views) (fun m => m.kind == 10 && parts false false false false false false false false false true m)
theorem law_askC : Lawful askC := by
  refine (law_call.pair law_op).map _ _ _ (fun _ _ _ => ⟨by simp [parts, noCall, noOp, noName, noErr, noCap, noEpoch, noRights, noHeld, noOver, noViews, Msg.zero], rfl⟩) (fun y hy _ => ?_)
  cases y
  simp [parts, noCall, noOp, noName, noErr, noCap, noEpoch, noRights, noHeld, noOver, noViews, Msg.zero] at hy ⊢
  simp [hy]
theorem law_toldC : Lawful toldC := by
  refine (law_call.pair ((law_name _).pair (law_errno.bind (fun e => law_capsIf e)))).map _ _ _ (fun _ _ _ => ⟨by simp [parts, noCall, noOp, noName, noErr, noCap, noEpoch, noRights, noHeld, noOver, noViews, Msg.zero], rfl⟩) (fun y hy _ => ?_)
  cases y
  simp [parts, noCall, noOp, noName, noErr, noCap, noEpoch, noRights, noHeld, noOver, noViews, Msg.zero] at hy ⊢
  simp [hy]
theorem law_markC : Lawful markC := by
  refine ((law_name _).pair (law_caps.pair law_epoch)).map _ _ _ (fun _ _ _ => ⟨by simp [parts, noCall, noOp, noName, noErr, noCap, noEpoch, noRights, noHeld, noOver, noViews, Msg.zero], rfl⟩) (fun y hy _ => ?_)
  cases y
  simp [parts, noCall, noOp, noName, noErr, noCap, noEpoch, noRights, noHeld, noOver, noViews, Msg.zero] at hy ⊢
  simp [hy]
theorem law_yieldC : Lawful yieldC := by
  refine ((law_name _).pair (law_caps.pair (law_epoch.pair (law_rights.pair law_held)))).map _ _ _ (fun _ _ _ => ⟨by simp [parts, noCall, noOp, noName, noErr, noCap, noEpoch, noRights, noHeld, noOver, noViews, Msg.zero], rfl⟩) (fun y hy _ => ?_)
  cases y
  simp [parts, noCall, noOp, noName, noErr, noCap, noEpoch, noRights, noHeld, noOver, noViews, Msg.zero] at hy ⊢
  simp [hy]
theorem law_grantC (k : Int) : Lawful (grantC k) := by
  refine ((law_name _).pair (law_caps.pair (law_epoch.pair law_rights))).map _ _ _ (fun _ _ _ => ⟨by simp [parts, noCall, noOp, noName, noErr, noCap, noEpoch, noRights, noHeld, noOver, noViews, Msg.zero], rfl⟩) (fun y hy _ => ?_)
  cases y
  simp [parts, noCall, noOp, noName, noErr, noCap, noEpoch, noRights, noHeld, noOver, noViews, Msg.zero] at hy ⊢
  simp [hy]
theorem law_overC : Lawful overC := by
  refine ((law_name _).pair (law_caps.pair (law_epoch.pair law_epoch))).map _ _ _ (fun _ _ _ => ⟨by simp [parts, noCall, noOp, noName, noErr, noCap, noEpoch, noRights, noHeld, noOver, noViews, Msg.zero], rfl⟩) (fun y hy _ => ?_)
  cases y
  simp [parts, noCall, noOp, noName, noErr, noCap, noEpoch, noRights, noHeld, noOver, noViews, Msg.zero] at hy ⊢
  simp [hy]
theorem law_wantC (k : Int) : Lawful (wantC k) := by
  refine ((law_name _).pair (law_caps.pair law_rights)).map _ _ _ (fun _ _ _ => ⟨by simp [parts, noCall, noOp, noName, noErr, noCap, noEpoch, noRights, noHeld, noOver, noViews, Msg.zero], rfl⟩) (fun y hy _ => ?_)
  cases y
  simp [parts, noCall, noOp, noName, noErr, noCap, noEpoch, noRights, noHeld, noOver, noViews, Msg.zero] at hy ⊢
  simp [hy]
theorem law_digestC : Lawful digestC := by
  refine law_views.map _ _ _ (fun _ _ _ => ⟨by simp [parts, noCall, noOp, noName, noErr, noCap, noEpoch, noRights, noHeld, noOver, noViews, Msg.zero], rfl⟩) (fun y hy _ => ?_)
  cases y
  simp [parts, noCall, noOp, noName, noErr, noCap, noEpoch, noRights, noHeld, noOver, noViews, Msg.zero] at hy ⊢
  simp [hy]
def bodyC (k : Int) : Codec Msg :=
  if k = 1 then askC else if k = 2 then toldC else if k = 3 then markC else if k = 4 then yieldC else if k = 7 then overC
  else if k = 8 ∨ k = 9 then wantC k else if k = 10 then digestC else grantC k
theorem law_bodyC (k : Int) : Lawful (bodyC k) := by
  unfold bodyC
  repeat' split
  · exact law_askC
  · exact law_toldC
  · exact law_markC
  · exact law_yieldC
  · exact law_overC
  · exact law_wantC k
  · exact law_digestC
  · exact law_grantC k
theorem bodyC_kind (k : Int) (m : Msg) (bs : List UInt8) (h : (bodyC k).wr m = some bs) : m.kind = k := by
  unfold bodyC at h
  split at h
  · subst k; simp only [askC, Codec.map] at h; split at h; rename_i h1; simp at h1; exact h1.1; cases h
  split at h
  · subst k; simp only [toldC, Codec.map] at h; split at h; rename_i h1; simp at h1; exact h1.1; cases h
  split at h
  · subst k; simp only [markC, Codec.map] at h; split at h; rename_i h1; simp at h1; exact h1.1; cases h
  split at h
  · subst k; simp only [yieldC, Codec.map] at h; split at h; rename_i h1; simp at h1; exact h1.1; cases h
  split at h
  · subst k; simp only [overC, Codec.map] at h; split at h; rename_i h1; simp at h1; exact h1.1; cases h
  split at h
  · simp only [wantC, Codec.map] at h; split at h; rename_i h1; simp at h1; exact h1.1; cases h
  split at h
  · subst k; simp only [digestC, Codec.map] at h; split at h; rename_i h1; simp at h1; exact h1.1; cases h
  · simp only [grantC, Codec.map] at h; split at h; rename_i h1; simp at h1; exact h1.1; cases h
def message : Codec Msg := ((num 1 10).bind bodyC).map (fun x => x.2) (fun m => (m.kind, m)) (fun _ => true)
theorem law_message : Lawful message := by
  refine ((law_num 1 10 (by decide)).bind (fun k => law_bodyC k)).map _ _ _ (fun a bs h => ⟨rfl, ?_⟩) (fun y _ _ => rfl)
  obtain ⟨k, m⟩ := a
  simp only [Codec.bind] at h
  split at h
  · cases h
  · split at h
    · cases h
    · rename_i q hq
      rw [bodyC_kind _ _ _ hq]
def whole {α : Type} (c : Codec α) (l : List UInt8) : Res α := match c.rd l with
  | .error k => .error k
  | .ok (x, k) => if k < l.length then .error k else .ok (x, 0)
end Go.Proofs.Ytfgnlfemckdfnaa
