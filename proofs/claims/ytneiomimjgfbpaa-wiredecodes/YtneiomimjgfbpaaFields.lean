import Derived.Test.YtneiomimjgfbpaaCodec
namespace Go.Proofs.Ytneiomimjgfbpaa

def Codec.guard {α : Type} (c : Codec α) (p : α → Bool) : Codec α where
  rd l := match c.rd l with
    | .error k => .error k
    | .ok (a, k) => if p a then .ok (a, k) else .error 0
  wr a := if p a then c.wr a else none

theorem Lawful.guard {α : Type} {c : Codec α} (hc : Lawful c) (p : α → Bool) : Lawful (c.guard p) where
  back l x k h := by
    simp only [Codec.guard] at h ⊢
    cases e : c.rd l with
    | error e1 => rw [e] at h; cases h
    | ok v =>
      obtain ⟨a, n⟩ := v
      rw [e] at h
      simp only at h
      split at h
      · rename_i hp
        simp only [Except.ok.injEq, Prod.mk.injEq] at h
        obtain ⟨rfl, rfl⟩ := h
        rw [if_pos hp]
        exact hc.back _ _ _ e
      · cases h
  forth x bs h post := by
    simp only [Codec.guard] at h ⊢
    split at h
    · rename_i hp
      rw [hc.forth _ _ h]
      simp only [hp, if_true]
    · cases h
  cut x bs h k hk := by
    simp only [Codec.guard] at h ⊢
    split at h
    · rw [hc.cut _ _ h _ hk]
    · cases h
  place l k h := by
    simp only [Codec.guard] at h
    cases e : c.rd l with
    | error e1 => rw [e] at h; cases h; exact hc.place _ _ e
    | ok v =>
      obtain ⟨a, n⟩ := v
      rw [e] at h
      simp only at h
      split at h
      · cases h
      · cases h; omega

/-- A number from lo to hi. -/
def num (lo hi : Nat) : Codec Int where
  rd l := match raw.rd l with
    | .error k => .error k
    | .ok (n, k) => if decide (lo ≤ n) && decide (n ≤ hi) then .ok ((n : Int), k) else .error 0
  wr v := if decide ((lo : Int) ≤ v) && decide (v ≤ (hi : Int)) then some (put v.toNat) else none

theorem law_num (lo hi : Nat) (hh : hi < 2 ^ 64) : Lawful (num lo hi) := by
  have h := ((law_raw.guard (fun n => decide (lo ≤ n) && decide (n ≤ hi))).map (fun n => (n : Int)) (fun v => v.toNat) (fun v => decide ((lo : Int) ≤ v) && decide (v ≤ (hi : Int)))
    (fun a bs h => by
      simp only [Codec.guard] at h
      split at h
      · rename_i hp
        simp only [Bool.and_eq_true, decide_eq_true_eq] at hp ⊢
        refine ⟨⟨by omega, by omega⟩, by simp⟩
      · cases h)
    (fun y hy _ => by
      simp only [Bool.and_eq_true, decide_eq_true_eq] at hy
      simp only [Int.toNat_of_nonneg (show 0 ≤ y from by omega)]))
  have e : (num lo hi) = ((raw.guard (fun n => decide (lo ≤ n) && decide (n ≤ hi))).map (fun n => (n : Int)) (fun v => v.toNat) (fun v => decide ((lo : Int) ≤ v) && decide (v ≤ (hi : Int)))) := by
    unfold num Codec.map Codec.guard
    congr 1
    · funext l
      simp only
      cases h : raw.rd l with
      | error k => rfl
      | ok v =>
        obtain ⟨n, k⟩ := v
        simp only
        by_cases hp : (decide (lo ≤ n) && decide (n ≤ hi)) = true
        · simp only [if_pos hp]
        · simp only [if_neg hp]
    · funext v
      split
      · rename_i hv
        simp only [Bool.and_eq_true, decide_eq_true_eq] at hv
        have h1 : (decide (lo ≤ v.toNat) && decide (v.toNat ≤ hi)) = true := by simp only [Bool.and_eq_true, decide_eq_true_eq]; omega
        simp only [h1, if_true, raw]
        rw [if_pos (by omega)]
      · rfl
  rw [e]
  exact h

def unzig (n : Nat) : Int := if n % 2 = 0 then ((n / 2 : Nat) : Int) else -((n / 2 : Nat) : Int) - 1
def zig (v : Int) : Nat := if 0 ≤ v then (2 * v).toNat else (-2 * v - 1).toNat

/-- A signed number. -/
def signed : Codec Int where
  rd l := match raw.rd l with
    | .error k => .error k
    | .ok (n, k) => .ok (unzig n, k)
  wr v := if decide ((-9223372036854775808 : Int) ≤ v) && decide (v < (9223372036854775808 : Int)) then some (put (zig v)) else none

theorem zig_lt (v : Int) (h1 : (-9223372036854775808 : Int) ≤ v) (h2 : v < (9223372036854775808 : Int)) : zig v < 2 ^ 64 := by
  unfold zig; split <;> omega
theorem unzig_zig (v : Int) : unzig (zig v) = v := by
  unfold unzig zig; split <;> split <;> omega
theorem zig_unzig (n : Nat) : zig (unzig n) = n := by
  unfold unzig zig; split <;> split <;> omega

theorem law_signed : Lawful signed := by
  have h := (law_raw.map unzig zig (fun v => decide ((-9223372036854775808 : Int) ≤ v) && decide (v < (9223372036854775808 : Int)))
    (fun a bs h => by
      simp only [raw] at h
      split at h
      · rename_i ha
        refine ⟨?_, zig_unzig a⟩
        simp only [Bool.and_eq_true, decide_eq_true_eq]
        unfold unzig
        split <;> constructor <;> omega
      · cases h)
    (fun y _ _ => unzig_zig y))
  have e : signed = (raw.map unzig zig (fun v => decide ((-9223372036854775808 : Int) ≤ v) && decide (v < (9223372036854775808 : Int)))) := by
    unfold signed Codec.map
    congr 1
    · funext l
      cases h : raw.rd l with
      | error k => rfl
      | ok v => rfl
    · funext v
      split
      · rename_i hv
        simp only [Bool.and_eq_true, decide_eq_true_eq] at hv
        simp only [raw]
        rw [if_pos (zig_lt v hv.1 hv.2)]
      · rfl
  rw [e]
  exact h

/-- So many bytes. -/
def some' (n : Nat) : Codec (List UInt8) where
  rd l := if l.length < n then .error l.length else .ok (l.take n, n)
  wr s := if s.length = n then some s else none

theorem law_some' (n : Nat) : Lawful (some' n) where
  back l x k h := by
    simp only [some'] at h ⊢
    split at h
    · cases h
    · simp only [Except.ok.injEq, Prod.mk.injEq] at h
      obtain ⟨rfl, rfl⟩ := h
      refine ⟨by omega, ?_⟩
      rw [if_pos (by simp; omega)]
  forth x bs h post := by
    simp only [some'] at h ⊢
    split at h
    · rename_i hn
      cases h
      rw [if_neg (by simp; omega), ← hn]
      simp
    · cases h
  cut x bs h k hk := by
    simp only [some'] at h ⊢
    split at h
    · rename_i hn
      cases h
      rw [if_pos (by simp; omega)]
      simp only [List.length_take, Except.error.injEq]
      omega
    · cases h
  place l k h := by
    simp only [some'] at h
    split at h
    · cases h; omega
    · cases h

/-- Go's '>' of strings. -/
def gt (s a : List UInt8) : Bool := !(Op.bytesLess s a || s == a)
def fair (u : UInt8) : Bool := decide (33 ≤ u.toNat) && decide (u.toNat ≤ 126)
def good (above s : List UInt8) : Bool := s.all fair && gt s above

def text (above : List UInt8) (n : Nat) : Codec (List UInt8) := (some' n).guard (good above)

def name (above : List UInt8) : Codec (List UInt8) := ((num 1 16).bind (fun n => text above n.toNat)).map (fun x => x.2) (fun s => ((s.length : Int), s)) (fun _ => true)

theorem law_name (above : List UInt8) : Lawful (name above) := by
  refine ((law_num 1 16 (by decide)).bind (fun n => (law_some' n.toNat).guard (good above))).map _ _ _ (fun a bs h => ⟨rfl, ?_⟩) (fun y _ _ => rfl)
  obtain ⟨n, s⟩ := a
  simp only [Codec.bind, num, Codec.guard, some'] at h
  split at h
  · cases h
  · rename_i p hp
    split at hp
    · rename_i hn
      simp only [Bool.and_eq_true, decide_eq_true_eq] at hn
      split at h
      · cases h
      · rename_i q hq
        split at hq
        · split at hq
          · rename_i hs
            simp only [Prod.mk.injEq, and_true]
            omega
          · cases hq
        · cases hq
    · cases hp

def maxN : Nat := 1099511627776
def pair {α β : Type} (c : Codec α) (d : Codec β) : Codec (α × β) := c.bind (fun _ => d)
theorem Lawful.pair {α β : Type} {c : Codec α} {d : Codec β} (hc : Lawful c) (hd : Lawful d) : Lawful (pair c d) := hc.bind (fun _ => hd)

def caps : Codec (Int × Int) := pair (num 1 maxN) (num 0 maxN)
def epoch : Codec (Int × Int) := pair (num 1 maxN) (num 0 15)
def rights : Codec (Int × Int) := pair (num 0 maxN) (num 0 maxN)
def held : Codec Int := num 0 maxN
def call : Codec (Int × Int) := pair (num 0 63) (num 1 maxN)
def op : Codec (Int × List UInt8 × Int × Int) := pair (num 1 11) (pair (name []) (pair signed signed))
def errno : Codec Int := num 0 255

theorem law_caps : Lawful caps := (law_num _ _ (by decide)).pair (law_num _ _ (by decide))
theorem law_epoch : Lawful epoch := (law_num _ _ (by decide)).pair (law_num _ _ (by decide))
theorem law_rights : Lawful rights := (law_num _ _ (by decide)).pair (law_num _ _ (by decide))
theorem law_held : Lawful held := law_num _ _ (by decide)
theorem law_call : Lawful call := (law_num _ _ (by decide)).pair (law_num _ _ (by decide))
theorem law_op : Lawful op := (law_num _ _ (by decide)).pair ((law_name _).pair (law_signed.pair law_signed))
theorem law_errno : Lawful errno := law_num _ _ (by decide)

structure View where
  name : List UInt8
  cap : Int
  recaps : Int
  version : Int
  down : Int
  up : Int
  held : Int

/-- A view, above another one. -/
def view (above : List UInt8) : Codec View :=
  (pair (name above) (pair caps (pair (num 0 maxN) (pair rights held)))).map
    (fun x => ⟨x.1, x.2.1.1, x.2.1.2, x.2.2.1, x.2.2.2.1.1, x.2.2.2.1.2, x.2.2.2.2⟩)
    (fun v => (v.name, (v.cap, v.recaps), v.version, (v.down, v.up), v.held)) (fun _ => true)
theorem law_view (above : List UInt8) : Lawful (view above) :=
  ((law_name _).pair (law_caps.pair ((law_num _ _ (by decide)).pair (law_rights.pair law_held)))).map _ _ _ (fun _ _ _ => ⟨rfl, rfl⟩) (fun _ _ _ => rfl)

/-- So many views, each above the one ahead of it. -/
def viewList : Nat → List UInt8 → Codec (List View)
  | 0, _ => Codec.unit.map (fun _ => []) (fun _ => ()) (fun l => l.isEmpty)
  | n + 1, above => ((view above).bind (fun v => viewList n v.name)).map (fun x => x.1 :: x.2) (fun l => match l with | [] => (⟨[], 0, 0, 0, 0, 0, 0⟩, []) | v :: r => (v, r)) (fun l => !l.isEmpty)
theorem law_viewList : ∀ (n : Nat) (above : List UInt8), Lawful (viewList n above) := by
  intro n
  induction n with
  | zero =>
    intro above
    refine Lawful.unit.map _ _ _ (fun _ _ _ => ⟨rfl, rfl⟩) (fun y hy _ => ?_)
    cases y with
    | nil => rfl
    | cons _ _ => cases hy
  | succ n ih =>
    intro above
    refine ((law_view above).bind (fun v => ih v.name)).map _ _ _ (fun _ _ _ => ⟨rfl, rfl⟩) (fun y hy _ => ?_)
    cases y with
    | nil => cases hy
    | cons _ _ => rfl

theorem viewList_len : ∀ (n : Nat) (above : List UInt8) (l : List View) (bs : List UInt8), (viewList n above).wr l = some bs → l.length = n := by
  intro n
  induction n with
  | zero =>
    intro above l bs h
    simp only [viewList, Codec.map] at h
    cases l with
    | nil => rfl
    | cons _ _ => cases h
  | succ n ih =>
    intro above l bs h
    simp only [viewList, Codec.map] at h
    cases l with
    | nil => cases h
    | cons v r =>
      simp only [Codec.bind, List.isEmpty_cons, Bool.not_false, if_true] at h
      split at h
      · cases h
      · split at h
        · cases h
        · rename_i hq
          simp only [List.length_cons]
          rw [ih _ _ _ hq]

def views : Codec (List View) := ((num 0 64).bind (fun n => viewList n.toNat [])).map (fun x => x.2) (fun l => ((l.length : Int), l)) (fun _ => true)
theorem law_views : Lawful views := by
  refine ((law_num 0 64 (by decide)).bind (fun n => law_viewList n.toNat [])).map _ _ _ (fun a bs h => ⟨rfl, ?_⟩) (fun y _ _ => rfl)
  obtain ⟨n, s⟩ := a
  simp only [Codec.bind, num] at h
  split at h
  · cases h
  · rename_i p hp
    split at hp
    · rename_i hn
      simp only [Bool.and_eq_true, decide_eq_true_eq] at hn
      split at h
      · cases h
      · rename_i q hq
        have := viewList_len _ _ _ _ hq
        simp only [Prod.mk.injEq, and_true]
        omega
    · cases hp

/- SEGMENTS, REQUESTS, REPLIES -/
structure Seg where
  src : Int
  dst : Int
  seq : Int
  ack : Int
  data : List UInt8

def lowOf (seq : Int) : Nat := if seq = 0 then 0 else 1
def highOf (seq : Int) : Nat := if seq = 0 then 0 else 4000
def dataC (seq : Int) : Codec (List UInt8) := ((num (lowOf seq) (highOf seq)).bind (fun n => some' n.toNat)).map (fun x => x.2) (fun s => ((s.length : Int), s)) (fun _ => true)
theorem law_dataC (seq : Int) : Lawful (dataC seq) := by
  refine ((law_num _ _ (by unfold highOf; split <;> decide)).bind (fun n => law_some' n.toNat)).map _ _ _ (fun a bs h => ⟨rfl, ?_⟩) (fun y _ _ => rfl)
  obtain ⟨n, s⟩ := a
  simp only [Codec.bind, num, some'] at h
  split at h
  · cases h
  · rename_i p hp
    split at hp
    · rename_i hn
      simp only [Bool.and_eq_true, decide_eq_true_eq] at hn
      split at h
      · cases h
      · rename_i q hq
        split at hq
        · simp only [Prod.mk.injEq, and_true]
          omega
        · cases hq
    · cases hp

def segment : Codec Seg := (pair (num 0 15) (pair (num 0 15) ((num 0 maxN).bind (fun q => pair (num 0 maxN) (dataC q))))).map
  (fun x => ⟨x.1, x.2.1, x.2.2.1, x.2.2.2.1, x.2.2.2.2⟩) (fun s => (s.src, s.dst, s.seq, s.ack, s.data)) (fun _ => true)
theorem law_segment : Lawful segment :=
  ((law_num _ _ (by decide)).pair ((law_num _ _ (by decide)).pair ((law_num _ _ (by decide)).bind (fun q => (law_num _ _ (by decide)).pair (law_dataC q))))).map _ _ _ (fun _ _ _ => ⟨rfl, rfl⟩) (fun _ _ _ => rfl)

def request : Codec ((Int × Int) × (Int × List UInt8 × Int × Int)) := pair call op
theorem law_request : Lawful request := law_call.pair law_op
def reply : Codec ((Int × Int) × Int × Int) := pair call (pair errno signed)
theorem law_reply : Lawful reply := law_call.pair (law_errno.pair law_signed)

/- MESSAGES -/
structure Msg where
  kind : Int
  name : List UInt8
  cap : Int
  recaps : Int
  round : Int
  rank : Int
  oround : Int
  orank : Int
  down : Int
  up : Int
  held : Int
  session : Int
  id : Int
  okind : Int
  oname : List UInt8
  oa : Int
  ob : Int
  err : Int
  value : Int
  views : List View

def Msg.zero : Msg := ⟨0, [], 0, 0, 0, 0, 0, 0, 0, 0, 0, 0, 0, 0, [], 0, 0, 0, 0, []⟩

/- Which parts a message has. -/
def noCall (m : Msg) : Bool := m.session == 0 && m.id == 0
def noOp (m : Msg) : Bool := m.okind == 0 && m.oname == [] && m.oa == 0 && m.ob == 0
def noName (m : Msg) : Bool := m.name == []
def noErr (m : Msg) : Bool := m.err == 0
def noCap (m : Msg) : Bool := m.cap == 0 && m.recaps == 0
def noEpoch (m : Msg) : Bool := m.round == 0 && m.rank == 0
def noRights (m : Msg) : Bool := m.down == 0 && m.up == 0
def noHeld (m : Msg) : Bool := m.held == 0
def noOver (m : Msg) : Bool := m.oround == 0 && m.orank == 0
def noViews (m : Msg) : Bool := m.views.isEmpty

def parts (c o n e k p r h v w : Bool) (m : Msg) : Bool :=
  m.value == 0 && (c || noCall m) && (o || noOp m) && (n || noName m) && (e || noErr m) && (k || noCap m) && (p || noEpoch m) && (r || noRights m) && (h || noHeld m) && (v || noOver m) && (w || noViews m)

def hasCap (e : Int) : Bool := e == 0 || e == 101
/-- The cap that a word may have. -/
def capsIf (e : Int) : Codec (Int × Int) := if hasCap e then caps else Codec.unit.map (fun _ => ((0 : Int), (0 : Int))) (fun _ => ()) (fun x => x.1 == 0 && x.2 == 0)
theorem law_capsIf (e : Int) : Lawful (capsIf e) := by
  unfold capsIf
  split
  · exact law_caps
  · refine Lawful.unit.map _ _ _ (fun _ _ _ => ⟨rfl, rfl⟩) (fun y hy _ => ?_)
    obtain ⟨a, b⟩ := y
    simp only [Bool.and_eq_true, beq_iff_eq] at hy
    simp [hy.1, hy.2]

def askC : Codec Msg := (pair call op).map
  (fun x => { Msg.zero with kind := 1, session := x.1.1, id := x.1.2, okind := x.2.1, oname := x.2.2.1, oa := x.2.2.2.1, ob := x.2.2.2.2 })
  (fun m => ((m.session, m.id), m.okind, m.oname, m.oa, m.ob)) (fun m => m.kind == 1 && parts true true false false false false false false false false m)
def toldC : Codec Msg := (pair call (pair (name []) (errno.bind (fun e => capsIf e)))).map
  (fun x => { Msg.zero with kind := 2, session := x.1.1, id := x.1.2, name := x.2.1, err := x.2.2.1, cap := x.2.2.2.1, recaps := x.2.2.2.2 })
  (fun m => ((m.session, m.id), m.name, m.err, m.cap, m.recaps)) (fun m => m.kind == 2 && parts true false true true true false false false false false m)
def markC : Codec Msg := (pair (name []) (pair caps epoch)).map
  (fun x => { Msg.zero with kind := 3, name := x.1, cap := x.2.1.1, recaps := x.2.1.2, round := x.2.2.1, rank := x.2.2.2 })
  (fun m => (m.name, (m.cap, m.recaps), m.round, m.rank)) (fun m => m.kind == 3 && parts false false true false true true false false false false m)
def yieldC : Codec Msg := (pair (name []) (pair caps (pair epoch (pair rights held)))).map
  (fun x => { Msg.zero with kind := 4, name := x.1, cap := x.2.1.1, recaps := x.2.1.2, round := x.2.2.1.1, rank := x.2.2.1.2, down := x.2.2.2.1.1, up := x.2.2.2.1.2, held := x.2.2.2.2 })
  (fun m => (m.name, (m.cap, m.recaps), (m.round, m.rank), (m.down, m.up), m.held)) (fun m => m.kind == 4 && parts false false true false true true true true false false m)
def grantC (k : Int) : Codec Msg := (pair (name []) (pair caps (pair epoch rights))).map
  (fun x => { Msg.zero with kind := k, name := x.1, cap := x.2.1.1, recaps := x.2.1.2, round := x.2.2.1.1, rank := x.2.2.1.2, down := x.2.2.2.1, up := x.2.2.2.2 })
  (fun m => (m.name, (m.cap, m.recaps), (m.round, m.rank), (m.down, m.up))) (fun m => m.kind == k && parts false false true false true true true false false false m)
def overC : Codec Msg := (pair (name []) (pair caps (pair epoch epoch))).map
  (fun x => { Msg.zero with kind := 7, name := x.1, cap := x.2.1.1, recaps := x.2.1.2, round := x.2.2.1.1, rank := x.2.2.1.2, oround := x.2.2.2.1, orank := x.2.2.2.2 })
  (fun m => (m.name, (m.cap, m.recaps), (m.round, m.rank), (m.oround, m.orank))) (fun m => m.kind == 7 && parts false false true false true true false false true false m)
def wantC (k : Int) : Codec Msg := (pair (name []) (pair caps rights)).map
  (fun x => { Msg.zero with kind := k, name := x.1, cap := x.2.1.1, recaps := x.2.1.2, down := x.2.2.1, up := x.2.2.2 })
  (fun m => (m.name, (m.cap, m.recaps), (m.down, m.up))) (fun m => m.kind == k && parts false false true false true false true false false false m)
def digestC : Codec Msg := views.map (fun x => { Msg.zero with kind := 10, views := x }) (fun m => m.views) (fun m => m.kind == 10 && parts false false false false false false false false false true m)

theorem law_askC : Lawful askC := by
  refine (law_call.pair law_op).map _ _ _ (fun _ _ _ => ⟨by simp [parts, noCall, noOp, noName, noErr, noCap, noEpoch, noRights, noHeld, noOver, noViews, Msg.zero], rfl⟩) (fun y hy _ => ?_)
  cases y
  simp [parts, noCall, noOp, noName, noErr, noCap, noEpoch, noRights, noHeld, noOver, noViews, Msg.zero] at hy ⊢
  simp [hy]
theorem law_toldC : Lawful toldC := by
  refine (law_call.pair ((law_name _).pair (law_errno.bind (fun e => law_capsIf e)))).map _ _ _ (fun _ _ _ => ⟨by simp [parts, noCall, noOp, noName, noErr, noCap, noEpoch, noRights, noHeld, noOver, noViews, Msg.zero], rfl⟩) (fun y hy _ => ?_)
  cases y
  simp [parts, noCall, noOp, noName, noErr, noCap, noEpoch, noRights, noHeld, noOver, noViews, Msg.zero] at hy ⊢
  simp [hy]
theorem law_markC : Lawful markC := by
  refine ((law_name _).pair (law_caps.pair law_epoch)).map _ _ _ (fun _ _ _ => ⟨by simp [parts, noCall, noOp, noName, noErr, noCap, noEpoch, noRights, noHeld, noOver, noViews, Msg.zero], rfl⟩) (fun y hy _ => ?_)
  cases y
  simp [parts, noCall, noOp, noName, noErr, noCap, noEpoch, noRights, noHeld, noOver, noViews, Msg.zero] at hy ⊢
  simp [hy]
theorem law_yieldC : Lawful yieldC := by
  refine ((law_name _).pair (law_caps.pair (law_epoch.pair (law_rights.pair law_held)))).map _ _ _ (fun _ _ _ => ⟨by simp [parts, noCall, noOp, noName, noErr, noCap, noEpoch, noRights, noHeld, noOver, noViews, Msg.zero], rfl⟩) (fun y hy _ => ?_)
  cases y
  simp [parts, noCall, noOp, noName, noErr, noCap, noEpoch, noRights, noHeld, noOver, noViews, Msg.zero] at hy ⊢
  simp [hy]
theorem law_grantC (k : Int) : Lawful (grantC k) := by
  refine ((law_name _).pair (law_caps.pair (law_epoch.pair law_rights))).map _ _ _ (fun _ _ _ => ⟨by simp [parts, noCall, noOp, noName, noErr, noCap, noEpoch, noRights, noHeld, noOver, noViews, Msg.zero], rfl⟩) (fun y hy _ => ?_)
  cases y
  simp [parts, noCall, noOp, noName, noErr, noCap, noEpoch, noRights, noHeld, noOver, noViews, Msg.zero] at hy ⊢
  simp [hy]
theorem law_overC : Lawful overC := by
  refine ((law_name _).pair (law_caps.pair (law_epoch.pair law_epoch))).map _ _ _ (fun _ _ _ => ⟨by simp [parts, noCall, noOp, noName, noErr, noCap, noEpoch, noRights, noHeld, noOver, noViews, Msg.zero], rfl⟩) (fun y hy _ => ?_)
  cases y
  simp [parts, noCall, noOp, noName, noErr, noCap, noEpoch, noRights, noHeld, noOver, noViews, Msg.zero] at hy ⊢
  simp [hy]
theorem law_wantC (k : Int) : Lawful (wantC k) := by
  refine ((law_name _).pair (law_caps.pair law_rights)).map _ _ _ (fun _ _ _ => ⟨by simp [parts, noCall, noOp, noName, noErr, noCap, noEpoch, noRights, noHeld, noOver, noViews, Msg.zero], rfl⟩) (fun y hy _ => ?_)
  cases y
  simp [parts, noCall, noOp, noName, noErr, noCap, noEpoch, noRights, noHeld, noOver, noViews, Msg.zero] at hy ⊢
  simp [hy]
theorem law_digestC : Lawful digestC := by
  refine law_views.map _ _ _ (fun _ _ _ => ⟨by simp [parts, noCall, noOp, noName, noErr, noCap, noEpoch, noRights, noHeld, noOver, noViews, Msg.zero], rfl⟩) (fun y hy _ => ?_)
  cases y
  simp [parts, noCall, noOp, noName, noErr, noCap, noEpoch, noRights, noHeld, noOver, noViews, Msg.zero] at hy ⊢
  simp [hy]

/-- What stands behind the kind. -/
def bodyC (k : Int) : Codec Msg :=
  if k = 1 then askC else if k = 2 then toldC else if k = 3 then markC else if k = 4 then yieldC else if k = 7 then overC
  else if k = 8 ∨ k = 9 then wantC k else if k = 10 then digestC else grantC k
theorem law_bodyC (k : Int) : Lawful (bodyC k) := by
  unfold bodyC
  repeat' split
  · exact law_askC
  · exact law_toldC
  · exact law_markC
  · exact law_yieldC
  · exact law_overC
  · exact law_wantC k
  · exact law_digestC
  · exact law_grantC k

theorem bodyC_kind (k : Int) (m : Msg) (bs : List UInt8) (h : (bodyC k).wr m = some bs) : m.kind = k := by
  unfold bodyC at h
  split at h
  · subst k; simp only [askC, Codec.map] at h; split at h; rename_i h1; simp at h1; exact h1.1; cases h
  split at h
  · subst k; simp only [toldC, Codec.map] at h; split at h; rename_i h1; simp at h1; exact h1.1; cases h
  split at h
  · subst k; simp only [markC, Codec.map] at h; split at h; rename_i h1; simp at h1; exact h1.1; cases h
  split at h
  · subst k; simp only [yieldC, Codec.map] at h; split at h; rename_i h1; simp at h1; exact h1.1; cases h
  split at h
  · subst k; simp only [overC, Codec.map] at h; split at h; rename_i h1; simp at h1; exact h1.1; cases h
  split at h
  · simp only [wantC, Codec.map] at h; split at h; rename_i h1; simp at h1; exact h1.1; cases h
  split at h
  · subst k; simp only [digestC, Codec.map] at h; split at h; rename_i h1; simp at h1; exact h1.1; cases h
  · simp only [grantC, Codec.map] at h; split at h; rename_i h1; simp at h1; exact h1.1; cases h

def message : Codec Msg := ((num 1 10).bind bodyC).map (fun x => x.2) (fun m => (m.kind, m)) (fun _ => true)
theorem law_message : Lawful message := by
  refine ((law_num 1 10 (by decide)).bind (fun k => law_bodyC k)).map _ _ _ (fun a bs h => ⟨rfl, ?_⟩) (fun y _ _ => rfl)
  obtain ⟨k, m⟩ := a
  simp only [Codec.bind] at h
  split at h
  · cases h
  · split at h
    · cases h
    · rename_i q hq
      rw [bodyC_kind _ _ _ hq]

/-- A whole thing: nothing is left behind it. -/
def whole {α : Type} (c : Codec α) (l : List UInt8) : Res α := match c.rd l with
  | .error k => .error k
  | .ok (x, k) => if k < l.length then .error k else .ok (x, 0)
end Go.Proofs.Ytneiomimjgfbpaa
