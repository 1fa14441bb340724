import Derived.Test.YtcjgicfmfjomgaaLn0
namespace Go.Proofs.Ytcjgicfmfjomgaa
open Go.RowKit Go.PlainAid Go.MapKept
set_option linter.unusedVariables false
set_option linter.unusedSimpArgs false
def meOf (i : Nat) : Int := if i = 0 then 3 else 5
/-- What holds of one end, beside the directions. -/
structure EndI (x : LV) (i wn n t il : Nat) : Prop where
  me : x.me = meOf i
  pe : x.peer = meOf (1 - i)
  wi : x.win = wn
  rs : x.res = (n : Int)
  ag : 0 ≤ x.age ∧ x.age < (n : Int)
  bx : x.box.length + x.under.length ≤ wn
  ts : il ≤ t
/-- What holds of a line, whatever becomes of its segments. -/
structure LInv (S : Ln) (win : Nat → Nat) (n t : Nat) : Prop where
  wn : ∀ i, i < 2 → 1 ≤ win i ∧ win i ≤ 16
  hn : 1 ≤ n ∧ n ≤ 20
  ei : ∀ i, i < 2 → EndI (S.e i).x i (win i) n t (S.e i).inn.length
  d : ∀ i, i < 2 → ∃ a, Dir (S.e i).x (S.e (1 - i)).x ((S.e i).inn.map Dv.s) (S.e i).out a
  sg : ∀ g ∈ S.sent, ∃ i, i < 2 ∧ g.f = meOf i ∧ g.t = meOf (1 - i) ∧ SegOk ((S.e i).inn.map Dv.s) ((S.e i).inn.length - (S.e i).x.box.length) (S.e (1 - i)).out g.q g.a g.d.s
theorem two {i : Nat} (hi : i < 2) : 1 - i < 2 ∧ 1 - i ≠ i ∧ 1 - (1 - i) = i := by omega
theorem two' {i k : Nat} (hi : i < 2) (hk : k < 2) : k = i ∨ k = 1 - i := by omega
section
variable {S : Ln} {win : Nat → Nat} {n t : Nat}
theorem Ln.endX_same (S : Ln) (i : Nat) (uv : Value) (x : LV) : (S.endX i uv x).e i = { S.e i with uv := uv, x := x } := Ln.setE_same _ _ _
theorem Ln.endX_ne (S : Ln) {i k : Nat} (uv : Value) (x : LV) (h : k ≠ i) : (S.endX i uv x).e k = S.e k := Ln.setE_ne _ _ h
theorem Ln.outO_same (S : Ln) (i o : Nat) : (S.outO i o).e i = { S.e i with out := o } := Ln.setE_same _ _ _
theorem Ln.outO_ne (S : Ln) {i k : Nat} (o : Nat) (h : k ≠ i) : (S.outO i o).e k = S.e k := Ln.setE_ne _ _ h
/-- One end has gone on, and nothing came out. -/
theorem LInv.endX (h : LInv S win n t) {i : Nat} (hi : i < 2) {uv : Value} {x' : LV} (he : EndI x' i (win i) n t (S.e i).inn.length) (h1 : ∃ a, Dir x' (S.e (1 - i)).x ((S.e i).inn.map Dv.s) (S.e i).out a) (h2 : ∃ a, Dir (S.e (1 - i)).x x' ((S.e (1 - i)).inn.map Dv.s) (S.e (1 - i)).out a) (hb : x'.box.length ≤ (S.e i).x.box.length) : LInv (S.endX i uv x') win n t := by
  have hj := two hi
  refine ⟨h.wn, h.hn, fun k hk => ?_, fun k hk => ?_, fun g hg => ?_⟩
  · rcases two' hi hk with rfl | rfl
    · rw [Ln.endX_same]; exact he
    · rw [Ln.endX_ne _ _ _ hj.2.1]; exact h.ei _ hk
  · rcases two' hi hk with rfl | rfl
    · rw [Ln.endX_same, Ln.endX_ne _ _ _ hj.2.1]; exact h1
    · rw [hj.2.2, Ln.endX_same, Ln.endX_ne _ _ _ hj.2.1]; exact h2
  · obtain ⟨k, hk, e1, e2, hs⟩ := h.sg g hg
    refine ⟨k, hk, e1, e2, ?_⟩
    rcases two' hi hk with rfl | rfl
    · rw [Ln.endX_same, Ln.endX_ne _ _ _ hj.2.1]
      exact hs.mono (List.prefix_refl _) (by show _ ≤ (S.e k).inn.length - x'.box.length; omega) (Nat.le_refl _)
    · rw [hj.2.2] at hs ⊢
      rw [Ln.endX_same, Ln.endX_ne _ _ _ hj.2.1]
      exact hs
theorem LInv.tick (h : LInv S win n t) {i : Nat} (hi : i < 2) (uv : Value) : LInv (S.endX i uv (S.e i).x.tick) win n t := by
  have he := h.ei i hi
  have hf : (S.e i).x.tick.me = (S.e i).x.me ∧ (S.e i).x.tick.peer = (S.e i).x.peer ∧ (S.e i).x.tick.win = (S.e i).x.win ∧ (S.e i).x.tick.res = (S.e i).x.res ∧ (S.e i).x.tick.box = (S.e i).x.box ∧ (S.e i).x.tick.under = (S.e i).x.under ∧ (S.e i).x.tick.acked = (S.e i).x.acked ∧ (S.e i).x.tick.next = (S.e i).x.next ∧ (S.e i).x.tick.early = (S.e i).x.early ∧ 0 ≤ (S.e i).x.tick.age ∧ (S.e i).x.tick.age < (n : Int) := by
    have ha := he.ag
    have hr := he.rs
    unfold LV.tick
    split
    · exact ⟨rfl, rfl, rfl, rfl, rfl, rfl, rfl, rfl, rfl, ha.1, ha.2⟩
    · split
      · exact ⟨rfl, rfl, rfl, rfl, rfl, rfl, rfl, rfl, rfl, Int.le_refl _, by show (0 : Int) < n; have := h.hn; omega⟩
      · exact ⟨rfl, rfl, rfl, rfl, rfl, rfl, rfl, rfl, rfl, by show 0 ≤ (S.e i).x.age + 1; omega, by show (S.e i).x.age + 1 < n; omega⟩
  obtain ⟨f1, f2, f3, f4, f5, f6, f7, f8, f9, f10, f11⟩ := hf
  refine h.endX hi ⟨f1.trans he.me, f2.trans he.pe, f3.trans he.wi, f4.trans he.rs, ⟨f10, f11⟩, by rw [f5, f6]; exact he.bx, he.ts⟩ ?_ ?_ (by rw [f5]; exact Nat.le_refl _)
  · obtain ⟨a, ha⟩ := h.d i hi
    exact ⟨a, ha.sends f7 (by rw [f5, f6]; exact ha.rest) (by rw [f6]; exact Nat.le_refl _) (List.prefix_refl _) ha.ln⟩
  · obtain ⟨a, ha⟩ := h.d (1 - i) (two hi).1
    rw [(two hi).2.2] at ha
    exact ⟨a, ha.hears f8 f9 f3⟩
theorem LInv.out (h : LInv S win n t) {i : Nat} (hi : i < 2) (uv : Value) : LInv (S.endX i uv ((S.e i).x.calm.moved (S.e i).x.box.length)) win n t ∧ ∀ g : Sgm, g.pr ∈ outTells (S.e i).x → g.f = meOf i ∧ g.t = meOf (1 - i) ∧ SegOk ((S.e i).inn.map Dv.s) (S.e i).inn.length (S.e (1 - i)).out g.q g.a g.d.s := by
  have he := h.ei i hi
  obtain ⟨a, ha⟩ := h.d i hi
  obtain ⟨b, hb⟩ := h.d (1 - i) (two hi).1
  rw [(two hi).2.2] at hb
  have hbox : ((S.e i).x.calm.moved (S.e i).x.box.length).box = [] := by simp [LV.moved, LV.calm]
  have hund : ((S.e i).x.calm.moved (S.e i).x.box.length).under = (S.e i).x.under ++ (S.e i).x.box := by simp [LV.moved, LV.calm]
  refine ⟨h.endX hi ⟨he.me, he.pe, he.wi, he.rs, ?_, ?_, he.ts⟩ ⟨a, ha.out⟩ ⟨b, hb.hears rfl rfl rfl⟩ (by rw [hbox]; exact Nat.zero_le _), fun g hg => ?_⟩
  · show 0 ≤ (if (S.e i).x.under.length = 0 then 0 else (S.e i).x.age) ∧ (if (S.e i).x.under.length = 0 then 0 else (S.e i).x.age) < (n : Int)
    have := he.ag
    have := h.hn
    split <;> omega
  · rw [hbox, hund]
    have := he.bx
    simp
    omega
  · obtain ⟨e1, e2, e3⟩ := ha.tells hb.nx hg
    refine ⟨e1.trans he.me, e2.trans he.pe, ?_⟩
    have hl := ha.len
    rw [List.length_map] at hl
    rw [hl]
    exact e3
/-- A segment that was told is under way. -/
theorem LInv.addSent (h : LInv S win n t) {i : Nat} (hi : i < 2) (sv : Value) {g : Sgm} (hg : g.f = meOf i ∧ g.t = meOf (1 - i) ∧ SegOk ((S.e i).inn.map Dv.s) ((S.e i).inn.length - (S.e i).x.box.length) (S.e (1 - i)).out g.q g.a g.d.s) : LInv { S with sv := sv, sent := S.sent ++ [g] } win n t := by
  refine ⟨h.wn, h.hn, h.ei, h.d, fun g' hg' => ?_⟩
  rcases List.mem_append.1 hg' with q | q
  · exact h.sg g' q
  · rw [List.mem_singleton.1 q]
    exact ⟨i, hi, hg⟩
def Ln.inI (S : Ln) (i : Nat) (iv : Value) (inn : List Dv) : Ln := S.setE i { S.e i with iv := iv, inn := inn }
theorem Ln.inI_same (S : Ln) (i : Nat) (iv : Value) (l : List Dv) : (S.inI i iv l).e i = { S.e i with iv := iv, inn := l } := Ln.setE_same _ _ _
theorem Ln.inI_ne (S : Ln) {i k : Nat} (iv : Value) (l : List Dv) (h : k ≠ i) : (S.inI i iv l).e k = S.e k := Ln.setE_ne _ _ h
theorem LInv.later (h : LInv S win n t) {t' : Nat} (ht : t ≤ t') : LInv S win n t' :=
  ⟨h.wn, h.hn, fun i hi => ⟨(h.ei i hi).me, (h.ei i hi).pe, (h.ei i hi).wi, (h.ei i hi).rs, (h.ei i hi).ag, (h.ei i hi).bx, Nat.le_trans (h.ei i hi).ts ht⟩, h.d, h.sg⟩
/-- Data was handed in. -/
theorem LInv.send (h : LInv S win n t) {i : Nat} (hi : i < 2) (uv iv v : Value) (d : Dv) (hs : d.s.length ≤ 4000) (hr : (S.e i).x.box.length + (S.e i).x.under.length < win i) : LInv ((S.endX i uv ((S.e i).x.push ⟨v, d.s⟩)).inI i iv ((S.e i).inn ++ [d])) win n (t + 1) := by
  have hj := two hi
  have he := h.ei i hi
  obtain ⟨a, ha⟩ := h.d i hi
  obtain ⟨b, hb⟩ := h.d (1 - i) hj.1
  rw [hj.2.2] at hb
  refine ⟨h.wn, h.hn, fun k hk => ?_, fun k hk => ?_, fun g hg => ?_⟩
  · rcases two' hi hk with rfl | rfl
    · rw [Ln.inI_same, Ln.endX_same]
      exact ⟨he.me, he.pe, he.wi, he.rs, he.ag, by show ((S.e k).x.box ++ [_]).length + (S.e k).x.under.length ≤ _; simp; omega, by show ((S.e k).inn ++ [d]).length ≤ _; have := he.ts; simp; omega⟩
    · rw [Ln.inI_ne _ _ _ hj.2.1, Ln.endX_ne _ _ _ hj.2.1]
      exact ((h.later (Nat.le_succ t)).ei _ hk)
  · rcases two' hi hk with rfl | rfl
    · rw [Ln.inI_same, Ln.endX_same, Ln.inI_ne _ _ _ hj.2.1, Ln.endX_ne _ _ _ hj.2.1]
      refine ⟨a, ?_⟩
      show Dir _ _ (((S.e k).inn ++ [d]).map Dv.s) _ _
      rw [List.map_append]
      exact ha.push v d.s hs
    · rw [hj.2.2, Ln.inI_same, Ln.endX_same, Ln.inI_ne _ _ _ hj.2.1, Ln.endX_ne _ _ _ hj.2.1]
      exact ⟨b, hb.hears rfl rfl rfl⟩
  · obtain ⟨k, hk, e1, e2, hs⟩ := h.sg g hg
    refine ⟨k, hk, e1, e2, ?_⟩
    rcases two' hi hk with rfl | rfl
    · rw [Ln.inI_same, Ln.endX_same, Ln.inI_ne _ _ _ hj.2.1, Ln.endX_ne _ _ _ hj.2.1]
      refine hs.mono (by rw [List.map_append]; exact ⟨_, rfl⟩) ?_ (Nat.le_refl _)
      show _ ≤ ((S.e k).inn ++ [d]).length - ((S.e k).x.box ++ [_]).length
      simp
    · rw [hj.2.2] at hs ⊢
      rw [Ln.inI_same, Ln.endX_same, Ln.inI_ne _ _ _ hj.2.1, Ln.endX_ne _ _ _ hj.2.1]
      exact hs
theorem take_keeps {x x' : LV} {q k : Int} {s : List UInt8} {ds : List Dv} (h : TakeEq x q k s ds x') : x'.me = x.me ∧ x'.peer = x.peer ∧ x'.res = x.res ∧ x'.age = x.age ∧ x'.box = x.box ∧ x'.under = (x.ack k).under ∧ x'.acked = (x.ack k).acked ∧ x'.due = x.due := by
  have ha : (x.ack k).me = x.me ∧ (x.ack k).peer = x.peer ∧ (x.ack k).res = x.res ∧ (x.ack k).age = x.age ∧ (x.ack k).box = x.box ∧ (x.ack k).due = x.due := by
    unfold LV.ack
    split <;> exact ⟨rfl, rfl, rfl, rfl, rfl, rfl⟩
  unfold TakeEq at h
  split at h
  · rw [h.2]
    exact ⟨ha.1, ha.2.1, ha.2.2.1, ha.2.2.2.1, ha.2.2.2.2.1, rfl, rfl, ha.2.2.2.2.2⟩
  · obtain ⟨x1, hw, _, rfl⟩ := h
    unfold WaitTo at hw
    split at hw
    · obtain ⟨v', rfl⟩ := hw
      exact ⟨ha.1, ha.2.1, ha.2.2.1, ha.2.2.2.1, ha.2.2.2.2.1, rfl, rfl, ha.2.2.2.2.2⟩
    · subst hw
      exact ⟨ha.1, ha.2.1, ha.2.2.1, ha.2.2.2.1, ha.2.2.2.2.1, rfl, rfl, ha.2.2.2.2.2⟩
theorem ack_le (x : LV) (k : Int) : (x.ack k).under.length ≤ x.under.length := by
  unfold LV.ack
  split
  · exact Nat.le_refl _
  · simp
/-- A segment of the end i has come to the other one. -/
theorem LInv.takes (h : LInv S win n t) {i : Nat} (hi : i < 2) (uv : Value) {q k : Int} {s : List UInt8} {ds : List Dv} {x' : LV} (hs : SegOk ((S.e i).inn.map Dv.s) ((S.e i).inn.length - (S.e i).x.box.length) (S.e (1 - i)).out q k s) (ht : TakeEq (S.e (1 - i)).x q k s ds x') :
    LInv ((S.endX (1 - i) uv x').outO i ((S.e i).out + ds.length)) win n t ∧ (∀ m d, ds[m]? = some d → ((S.e i).inn.map Dv.s)[(S.e i).out + m]? = some d.s) ∧ (S.e i).out + ds.length ≤ (S.e i).inn.length ∧ x'.next = (((S.e i).out + ds.length : Nat) : Int) + 1 := by
  have hj := two hi
  have he := h.ei (1 - i) hj.1
  obtain ⟨a, ha⟩ := h.d i hi
  obtain ⟨b, hb⟩ := h.d (1 - i) hj.1
  rw [hj.2.2] at hb
  have hlen := ha.len
  rw [List.length_map] at hlen
  rw [show (S.e i).inn.length - (S.e i).x.box.length = a + (S.e i).x.under.length from by omega] at hs
  obtain ⟨hd1, hat, hgo, hwn⟩ := ha.takes hs ht
  obtain ⟨b', hb', _⟩ := hb.acks k hs.1 hs.2.1
  obtain ⟨k1, k2, k3, k4, k5, k6, k7, k8⟩ := take_keeps ht
  have hd2 : Dir x' (S.e i).x ((S.e (1 - i)).inn.map Dv.s) (S.e (1 - i)).out b' := hb'.sends k7 (by rw [k5, k6, hb'.rest]; congr 2; unfold LV.ack; split <;> rfl) (by rw [k6]; exact Nat.le_refl _) (List.prefix_refl _) hb'.ln
  have hne : i ≠ 1 - i := fun e => hj.2.1 e.symm
  have eI : ((S.endX (1 - i) uv x').outO i ((S.e i).out + ds.length)).e i = { S.e i with out := (S.e i).out + ds.length } := by rw [Ln.outO_same, Ln.endX_ne _ _ _ hne]
  have eJ : ((S.endX (1 - i) uv x').outO i ((S.e i).out + ds.length)).e (1 - i) = { S.e (1 - i) with uv := uv, x := x' } := by rw [Ln.outO_ne _ _ hj.2.1, Ln.endX_same]
  refine ⟨⟨h.wn, h.hn, fun m hm => ?_, fun m hm => ?_, fun g hg => ?_⟩, hat, by omega, hd1.nx⟩
  · rcases two' hi hm with rfl | rfl
    · rw [eI]; exact ⟨(h.ei m hi).me, (h.ei m hi).pe, (h.ei m hi).wi, (h.ei m hi).rs, (h.ei m hi).ag, (h.ei m hi).bx, (h.ei m hi).ts⟩
    · rw [eJ]
      refine ⟨k1.trans he.me, k2.trans he.pe, hwn.trans he.wi, k3.trans he.rs, by rw [k4]; exact he.ag, ?_, he.ts⟩
      show x'.box.length + x'.under.length ≤ _
      rw [k5, k6]
      have := ack_le (S.e (1 - i)).x k
      have := he.bx
      omega
  · rcases two' hi hm with rfl | rfl
    · rw [eI, eJ]; exact ⟨a, hd1⟩
    · rw [hj.2.2, eI, eJ]; exact ⟨b', hd2⟩
  · obtain ⟨m, hm, e1, e2, hs'⟩ := h.sg g hg
    refine ⟨m, hm, e1, e2, ?_⟩
    rcases two' hi hm with rfl | rfl
    · rw [eI, eJ]; exact hs'
    · rw [hj.2.2] at hs' ⊢
      rw [eI, eJ]
      refine hs'.mono (List.prefix_refl _) ?_ (by show _ ≤ (S.e i).out + ds.length; omega)
      show _ ≤ (S.e (1 - i)).inn.length - x'.box.length
      rw [k5]
      exact Nat.le_refl _
end
end Go.Proofs.Ytcjgicfmfjomgaa
