import Derived.Test.YtadfmnlkfcigoaaPr0
namespace Go.Proofs.Ytadfmnlkfcigoaa
open Go.RowKit Go.PlainAid
set_option linter.unusedVariables false
set_option linter.unusedSimpArgs false
section
variable {L : Nat} {own0 : Nat → Prop} {w0 : World} {es es' R A : List (Ent L)} {e e' E0 E1 : Ent L} {w w' : World}
theorem AS.mid (h : AS own0 w0 (A ++ e :: R) w) (hc : Chg (fun k => e.bl k) w w') (hP : e'.P w') (hu : ∀ k, e'.bl k → e.bl k ∨ w.heap.size ≤ k) : AS own0 w0 (A ++ e' :: R) w' :=
  ((h.perm List.perm_middle).swap hc hP hu).perm List.perm_middle.symm
/-- The cache changes. -/
theorem AS.cm {a : CA} {x x' : CX} (h : AS own0 w0 (A ++ E0 :: cmE L a x :: R) w) (hM : CM a x' w') (hc : Chg a.own w w') : AS own0 w0 (A ++ E0 :: cmE L a x' :: R) w' := by
  have h2 : AS own0 w0 ((A ++ [E0]) ++ cmE L a x :: R) w := by simpa using h
  have hlo := (h2.get (e := cmE L a x) (by simp)).2
  have h3 := h2.mid (e' := cmE L a x') hc ⟨hM, hlo⟩ (fun k hk => Or.inl hk)
  simpa using h3
/-- The document's cache changes. -/
theorem AS.rc {a : CA} {rb : Nat} {r r' : RS} (h : AS own0 w0 (A ++ E0 :: E1 :: rcE L a rb r :: R) w) (hs : RStep a L rb r r' w w') : AS own0 w0 (A ++ E0 :: E1 :: rcE L a rb r' :: R) w' := by
  have h2 : AS own0 w0 ((A ++ [E0, E1]) ++ rcE L a rb r :: R) w := by simpa using h
  have h3 := h2.mid (e' := rcE L a rb r') hs.chg hs.rc (fun k hk => hs.new k hk)
  simpa using h3
end
/-- Sizes of what a pair knows. -/
structure PBd (s : PV) (q : Nat) : Prop where
  op : s.x.op.length ≤ q
  rp : s.r.rp.length ≤ q
  mrk : 0 ≤ s.mark ∧ s.mark ≤ q
  lc : s.z.lc.length ≤ q
def PPost (a : PA) (s : PV) (q : Nat) (la : Int → Int) (w w' : World) : Prop := ∃ s', PN a s' w' ∧ PStp a s s' w w' ∧ PBd s' (q + 1) ∧ s'.x.la = la
theorem PPost.of {a : PA} {s : PV} {q : Nat} {la : Int → Int} {w X w' : World} (hb : Below w.heap.size w X) (h : PPost a s q la X w') : PPost a s q la w w' := by
  obtain ⟨s', h1, h2, h3⟩ := h
  exact ⟨s', h1, (PStp.ofBelow hb).trans h2, h3⟩
theorem PN.of {a : PA} {s s' : PV} {w w' : World} (h : PN a s w) (hA : AS (has (a.ents s)) w (a.ents s') w') (hf : NFull s'.z) (hg : Agr a.ca s'.x s'.r) : PN a s' w' ∧ PStp a s s' w w' := ⟨⟨hA.h, hf, hg, Nat.le_trans h.lo hA.chg.size⟩, hA.chg, hA.new⟩
theorem begX_op (a : CA) (x : CX) (s i : Int) : (begX a x s i).op.length ≤ x.op.length + 1 := by
  unfold begX
  split
  · simp
  · omega
theorem RBeg.len {a : CA} {r r' : RS} {s i : Int} (h : RBeg a r r' s i) : r'.rp.length = r.rp.length := by
  by_cases hn : isNew a (r.la s) s i
  · rw [(h.new hn).2.2]
  · rw [h.old hn]
set_option maxRecDepth 100000 in
set_option maxHeartbeats 6400000 in
theorem pbegin (a : PA) (s : PV) (q : Nat) (c1 c2 : Int) (w : World) (h : PN a s w) (hb : PBd s q) (hq : q ≤ 900) (hs1 : In64 c1) :
    Calls Try.prog 28 #[.pointer (some ⟨a.pb, 0, none⟩), .agg #[.int .i64 c1, .int .i64 c2]] w fun e w' => e = .returned (.bool true) ∧ PPost a s q (begX a.ca s.x c1 c2).la w w' := by
  obtain ⟨la1, hla1⟩ : ∃ la1, la1 = (begX a.ca s.x c1 c2).la := ⟨_, rfl⟩
  rw [← hla1]
  obtain ⟨res, hres⟩ : ∃ res, res = resB a.ca (s.x.la c1) (isIn (c1, c2) s.x.op) (rfind c2 (s.x.rg c1)) c1 c2 := ⟨_, rfl⟩
  obtain ⟨u, kn, cd⟩ := res
  obtain ⟨X1, hX1⟩ : ∃ X1, X1 = begX a.ca s.x c1 c2 := ⟨_, rfl⟩
  have hok := h.ok
  have HM1 : Hid (∀ (A : List (Ent a.L)) W, AS (has (a.ents s)) w (A ++ (boxE a.L a.pb (pairV a.ca.cb a.rb s.mark s.z) 57 :: cmE a.L a.ca s.x :: rcE a.L a.ca a.rb s.r :: s.z.ents a.L)) W → Calls Try.prog 13 #[.pointer (some ⟨a.ca.cb, 0, none⟩), .agg #[.int .i64 c1, .int .i64 c2]] W fun e v2 => e = .returned (.tuple #[.agg #[.int .i64 u.s, .int .i64 u.i, .int .i64 u.e, .int .i64 u.v], .bool kn, .int .i64 cd]) ∧ AS (has (a.ents s)) w (A ++ (boxE a.L a.pb (pairV a.ca.cb a.rb s.mark s.z) 57 :: cmE a.L a.ca X1 :: rcE a.L a.ca a.rb s.r :: s.z.ents a.L)) v2) := fun A W hW => by
    have hM := (hW.get (e := cmE a.L a.ca s.x) (by simp)).1
    refine (begin_all c1 c2 W hM hs1 (fun hm => h.g.bd c1 hm) h.g.hop).mono ?_
    rintro e v2 ⟨rfl, hm2, hc2⟩
    rw [← hres]
    exact ⟨rfl, hW.cm (by rw [hX1]; exact hm2) hc2⟩
  have HM2 : Hid (∀ (A : List (Ent a.L)) W, AS (has (a.ents s)) w (A ++ (boxE a.L a.pb (pairV a.ca.cb a.rb s.mark s.z) 57 :: cmE a.L a.ca X1 :: rcE a.L a.ca a.rb s.r :: s.z.ents a.L)) W → Calls Try.prog 33 #[.pointer (some ⟨a.rb, 0, none⟩), .agg #[.int .i64 c1, .int .i64 c2]] W fun e v2 => e = .returned (.tuple #[.agg #[.int .i64 u.s, .int .i64 u.i, .int .i64 u.e, .int .i64 u.v], .bool kn, .int .i64 cd]) ∧ ∃ r', RBeg a.ca s.r r' c1 c2 ∧ AS (has (a.ents s)) w (A ++ (boxE a.L a.pb (pairV a.ca.cb a.rb s.mark s.z) 57 :: cmE a.L a.ca X1 :: rcE a.L a.ca a.rb r' :: s.z.ents a.L)) v2) := fun A W hW => by
    have hM := hW.get (e := rcE a.L a.ca a.rb s.r) (by simp)
    refine (rbegin_all c1 c2 W hM hok (fun hm => by rw [h.g.la c1 hm]; exact h.g.bd c1 hm) (by rw [h.g.op]; have := hb.op; omega) (by have := hb.rp; omega)).mono ?_
    rintro e v2 ⟨rfl, r', hst, hrb⟩
    rw [h.g.resB hok c1 c2, ← hres]
    exact ⟨rfl, r', hrb, hW.rc hst⟩
  obtain ⟨X, hX⟩ : ∃ X, X = w.alloc (.cells #[.int .i64 c1, .int .i64 c2] 32) := ⟨_, rfl⟩
  obtain ⟨bx, hbx⟩ : ∃ bx, bx = w.heap.size := ⟨_, rfl⟩
  have HL : Hid (a.L ≤ w.heap.size) := h.lo
  have HAX : Hid (AS (has (a.ents s)) w (boxE a.L bx #[.int .i64 c1, .int .i64 c2] 32 :: (boxE a.L a.pb (pairV a.ca.cb a.rb s.mark s.z) 57 :: cmE a.L a.ca s.x :: rcE a.L a.ca a.rb s.r :: s.z.ents a.L)) X) := by
    have h0 := h.as.fresh (e := boxE a.L bx #[.int .i64 c1, .int .i64 c2] 32) (w' := X) (by rw [hX]; exact (Below.refl _ _).alloc (Nat.le_refl _) _) ⟨by rw [hX, hbx]; exact heap_alloc_new w _, by rw [hbx]; exact h.lo⟩ (fun k e => by rw [e, hbx]; exact Nat.le_refl _)
    exact h0
  have HCL1 : Hid (∀ W es, AS (has (a.ents s)) w es W → boxE a.L a.pb (pairV a.ca.cb a.rb s.mark s.z) 57 ∈ es → boxE a.L bx #[.int .i64 c1, .int .i64 c2] 32 ∈ es → (fun wq => wq.cell? ⟨a.pb, 0, none⟩ = some (.pointer (some ⟨a.ca.cb, 0, none⟩)) ∧ wq.cell? ⟨bx, 0, none⟩ = some (.int .i64 c1) ∧ wq.cell? ⟨bx, 1, none⟩ = some (.int .i64 c2)) W) := fun W es hW h1 h2 => by
    have b1 := (hW.get h1).1
    have b2 := (hW.get h2).1
    exact ⟨b1.cell 0, b2.cell 0, b2.cell 1⟩
  have HCL2 : Hid (∀ W es, AS (has (a.ents s)) w es W → boxE a.L a.pb (pairV a.ca.cb a.rb s.mark s.z) 57 ∈ es → boxE a.L bx #[.int .i64 c1, .int .i64 c2] 32 ∈ es → (fun wq => wq.cell? ⟨a.pb, 1, none⟩ = some (.pointer (some ⟨a.rb, 0, none⟩)) ∧ wq.cell? ⟨bx, 0, none⟩ = some (.int .i64 c1) ∧ wq.cell? ⟨bx, 1, none⟩ = some (.int .i64 c2)) W) := fun W es hW h1 h2 => by
    have b1 := (hW.get h1).1
    have b2 := (hW.get h2).1
    exact ⟨b1.cell 1, b2.cell 0, b2.cell 1⟩
  have HN : Hid _ := fun W => num_any cd W
  have HEND : Hid (∀ r' U ub vb, RBeg a.ca s.r r' c1 c2 → AS (has (a.ents s)) w (boxE a.L vb #[.int .i64 u.s, .int .i64 u.i, .int .i64 u.e, .int .i64 u.v] 36 :: boxE a.L ub #[.int .i64 u.s, .int .i64 u.i, .int .i64 u.e, .int .i64 u.v] 36 :: boxE a.L bx #[.int .i64 c1, .int .i64 c2] 32 :: (boxE a.L a.pb (pairV a.ca.cb a.rb s.mark s.z) 57 :: cmE a.L a.ca X1 :: rcE a.L a.ca a.rb r' :: s.z.ents a.L)) U → PPost a s q la1 w U) := fun r' U ub vb hrb hA => by
    have hA2 : AS (has (a.ents s)) w (a.ents { x := X1, r := r', mark := s.mark, z := s.z }) U := hA.drop.drop.drop
    obtain ⟨p1, p2⟩ := h.of hA2 h.f (by simp only; rw [hX1]; exact h.g.beg hrb)
    refine ⟨_, p1, p2, ⟨?_, ?_, ?_, ?_⟩, by rw [hla1, hX1]⟩
    · simp only
      rw [hX1]
      have := begX_op a.ca s.x c1 c2
      have := hb.op
      omega
    · simp only
      rw [hrb.len]
      have := hb.rp
      omega
    · have := hb.mrk
      exact ⟨this.1, by simp only; omega⟩
    · have := hb.lc
      simp only
      omega
  clear h hb hres hX1 hok hs1 hla1
  go_enter Try.func28, Try.ntmps28
  go_wp2_with fail
  rw [← hX, ← hbx]
  clear hX hbx
  rename_i K hK
  try rw [show ∀ a : Act, a.put none undef = a from fun _ => rfl]
  have hrest : ∀ (a' : Act) (f' : Nat → Value) (Y : World) (ub : Nat), Fr 45 a' f' → f' 0 = Value.pointer (some ⟨a.pb, 0, none⟩) → f' 3 = Value.pointer (some ⟨bx, 0, none⟩) → f' 5 = Value.pointer (some ⟨ub, 0, none⟩) → f' 6 = Value.bool kn → f' 7 = Value.int .i64 cd → AS (has (a.ents s)) w (boxE a.L ub #[.int .i64 u.s, .int .i64 u.i, .int .i64 u.e, .int .i64 u.v] 36 :: boxE a.L bx #[.int .i64 c1, .int .i64 c2] 32 :: (boxE a.L a.pb (pairV a.ca.cb a.rb s.mark s.z) 57 :: cmE a.L a.ca X1 :: rcE a.L a.ca a.rb s.r :: s.z.ents a.L)) Y → K a' Y := by
    intro a' f' Y ub F' k0 k3 k5 k6 k7 hfn
    have HAY : Hid (AS (has (a.ents s)) w (boxE a.L ub #[.int .i64 u.s, .int .i64 u.i, .int .i64 u.e, .int .i64 u.v] 36 :: boxE a.L bx #[.int .i64 c1, .int .i64 c2] 32 :: (boxE a.L a.pb (pairV a.ca.cb a.rb s.mark s.z) 57 :: cmE a.L a.ca X1 :: rcE a.L a.ca a.rb s.r :: s.z.ents a.L)) Y) := hfn
    refine hK _ _ ?_
    rw [F'.lit, show ((List.range 45).map f').toArray = #[f' 0, f' 1, f' 2, f' 3, f' 4, f' 5, f' 6, f' 7, f' 8, f' 9, f' 10, f' 11, f' 12, f' 13, f' 14, f' 15, f' 16, f' 17, f' 18, f' 19, f' 20, f' 21, f' 22, f' 23, f' 24, f' 25, f' 26, f' 27, f' 28, f' 29, f' 30, f' 31, f' 32, f' 33, f' 34, f' 35, f' 36, f' 37, f' 38, f' 39, f' 40, f' 41, f' 42, f' 43, f' 44] from rfl, k0, k3, k5, k6, k7]
    clear hK F' k0 k3 k5 k6 k7 hfn HM1 HCL1 HAX
    go_wp2_with fail
    rename_i K2 hK2
    try rw [show ∀ a : Act, a.put none undef = a from fun _ => rfl]
    have hrest2 : ∀ (a' : Act) (f' : Nat → Value) (Z : World) (vb : Nat), Fr 45 a' f' → f' 0 = Value.pointer (some ⟨a.pb, 0, none⟩) → f' 3 = Value.pointer (some ⟨bx, 0, none⟩) → f' 5 = Value.pointer (some ⟨ub, 0, none⟩) → f' 6 = Value.bool kn → f' 7 = Value.int .i64 cd → f' 8 = Value.pointer (some ⟨vb, 0, none⟩) → f' 9 = Value.bool kn → f' 10 = Value.int .i64 cd → (∃ r', RBeg a.ca s.r r' c1 c2 ∧ AS (has (a.ents s)) w (boxE a.L vb #[.int .i64 u.s, .int .i64 u.i, .int .i64 u.e, .int .i64 u.v] 36 :: boxE a.L ub #[.int .i64 u.s, .int .i64 u.i, .int .i64 u.e, .int .i64 u.v] 36 :: boxE a.L bx #[.int .i64 c1, .int .i64 c2] 32 :: (boxE a.L a.pb (pairV a.ca.cb a.rb s.mark s.z) 57 :: cmE a.L a.ca X1 :: rcE a.L a.ca a.rb r' :: s.z.ents a.L)) Z) → K2 a' Z := by
      intro a' f' Z vb F' k0 k3 k5 k6 k7 k8 k9 k10 hfn
      obtain ⟨r', hrb, hA⟩ := hfn
      have hu := (hA.get (e := boxE a.L ub #[.int .i64 u.s, .int .i64 u.i, .int .i64 u.e, .int .i64 u.v] 36) (by simp)).1
      have hv := hA.head.1
      have u0 : Z.cell? ⟨ub, 0, none⟩ = some (.int .i64 u.s) := hu.cell 0
      have u1 : Z.cell? ⟨ub, 1, none⟩ = some (.int .i64 u.i) := hu.cell 1
      have u2 : Z.cell? ⟨ub, 2, none⟩ = some (.int .i64 u.e) := hu.cell 2
      have u3 : Z.cell? ⟨ub, 3, none⟩ = some (.int .i64 u.v) := hu.cell 3
      have v0 : Z.cell? ⟨vb, 0, none⟩ = some (.int .i64 u.s) := hv.cell 0
      have v1 : Z.cell? ⟨vb, 1, none⟩ = some (.int .i64 u.i) := hv.cell 1
      have v2 : Z.cell? ⟨vb, 2, none⟩ = some (.int .i64 u.e) := hv.cell 2
      have v3 : Z.cell? ⟨vb, 3, none⟩ = some (.int .i64 u.v) := hv.cell 3
      have HFI : Hid (PPost a s q la1 w Z) := HEND.out r' Z ub vb hrb hA
      refine hK2 _ _ ?_
      rw [F'.lit, show ((List.range 45).map f').toArray = #[f' 0, f' 1, f' 2, f' 3, f' 4, f' 5, f' 6, f' 7, f' 8, f' 9, f' 10, f' 11, f' 12, f' 13, f' 14, f' 15, f' 16, f' 17, f' 18, f' 19, f' 20, f' 21, f' 22, f' 23, f' 24, f' 25, f' 26, f' 27, f' 28, f' 29, f' 30, f' 31, f' 32, f' 33, f' 34, f' 35, f' 36, f' 37, f' 38, f' 39, f' 40, f' 41, f' 42, f' 43, f' 44] from rfl, k0, k3, k5, k6, k7, k8, k9, k10]
      clear hK2 F' k0 k3 k5 k6 k7 k8 k9 k10 hA hrb hu hv HEND HM2 HCL2 HAY
      go_wp2_with (go_at_call 11; refine Calls.mono (HN.out _) ?_; rintro e w' ⟨rfl, rfl⟩)
      go_ret
      exact ⟨rfl, HFI.out⟩
    clear hK2
    have HCY : Hid ((fun wq => wq.cell? ⟨a.pb, 1, none⟩ = some (.pointer (some ⟨a.rb, 0, none⟩)) ∧ wq.cell? ⟨bx, 0, none⟩ = some (.int .i64 c1) ∧ wq.cell? ⟨bx, 1, none⟩ = some (.int .i64 c2)) ({ Y with drawn := Y.drawn + 1 } : World)) := HCL2.out ({ Y with drawn := Y.drawn + 1 } : World) _ (HAY.out.more (Below.drew (Below.refl Y.heap.size Y))) (by simp) (by simp)
    have HA2 : Hid (Calls Try.prog 33 #[.pointer (some ⟨a.rb, 0, none⟩), .agg #[.int .i64 c1, .int .i64 c2]] ({ Y with drawn := Y.drawn + 1 } : World) fun e v2 => e = .returned (.tuple #[.agg #[.int .i64 u.s, .int .i64 u.i, .int .i64 u.e, .int .i64 u.v], .bool kn, .int .i64 cd]) ∧ (fun wq => wq.cell? ⟨a.pb, 1, none⟩ = some (.pointer (some ⟨a.rb, 0, none⟩)) ∧ wq.cell? ⟨bx, 0, none⟩ = some (.int .i64 c1) ∧ wq.cell? ⟨bx, 1, none⟩ = some (.int .i64 c2)) v2 ∧ (fun wq => wq.cell? ⟨a.pb, 1, none⟩ = some (.pointer (some ⟨a.rb, 0, none⟩)) ∧ wq.cell? ⟨bx, 0, none⟩ = some (.int .i64 c1) ∧ wq.cell? ⟨bx, 1, none⟩ = some (.int .i64 c2)) (v2.alloc (.cells #[.int .i64 0, .int .i64 0, .int .i64 0, .int .i64 0] 36)) ∧ (fun wq => wq.cell? ⟨a.pb, 1, none⟩ = some (.pointer (some ⟨a.rb, 0, none⟩)) ∧ wq.cell? ⟨bx, 0, none⟩ = some (.int .i64 c1) ∧ wq.cell? ⟨bx, 1, none⟩ = some (.int .i64 c2)) (v2.alloc (.cells #[.int .i64 u.s, .int .i64 u.i, .int .i64 u.e, .int .i64 u.v] 36)) ∧ ∃ r', RBeg a.ca s.r r' c1 c2 ∧ AS (has (a.ents s)) w (boxE a.L v2.heap.size #[.int .i64 u.s, .int .i64 u.i, .int .i64 u.e, .int .i64 u.v] 36 :: boxE a.L ub #[.int .i64 u.s, .int .i64 u.i, .int .i64 u.e, .int .i64 u.v] 36 :: boxE a.L bx #[.int .i64 c1, .int .i64 c2] 32 :: (boxE a.L a.pb (pairV a.ca.cb a.rb s.mark s.z) 57 :: cmE a.L a.ca X1 :: rcE a.L a.ca a.rb r' :: s.z.ents a.L)) (v2.alloc (.cells #[.int .i64 u.s, .int .i64 u.i, .int .i64 u.e, .int .i64 u.v] 36))) := by
      have h0 := HAY.out.more (Below.drew (Below.refl Y.heap.size Y))
      refine Calls.mono (HM2.out [boxE a.L ub #[.int .i64 u.s, .int .i64 u.i, .int .i64 u.e, .int .i64 u.v] 36, boxE a.L bx #[.int .i64 c1, .int .i64 c2] 32] ({ Y with drawn := Y.drawn + 1 } : World) h0) ?_
      rintro e v2 ⟨rfl, r', hrb, hA2⟩
      have ha : ∀ C, Below v2.heap.size v2 (v2.alloc (.cells C 36)) := fun C => (Below.refl _ _).alloc (Nat.le_refl _) _
      refine ⟨rfl, HCL2.out v2 _ hA2 (by simp) (by simp), HCL2.out _ _ (hA2.more (ha _)) (by simp) (by simp), HCL2.out _ _ (hA2.more (ha _)) (by simp) (by simp), ?_⟩
      exact ⟨r', hrb, hA2.fresh (ha _) ⟨heap_alloc_new v2 _, Nat.le_trans HL.out hA2.chg.size⟩ (fun k e => by rw [e]; exact Nat.le_refl _)⟩
    have HB2 : Hid ((fun wq => wq.cell? ⟨a.pb, 1, none⟩ = some (.pointer (some ⟨a.rb, 0, none⟩)) ∧ wq.cell? ⟨bx, 0, none⟩ = some (.int .i64 c1) ∧ wq.cell? ⟨bx, 1, none⟩ = some (.int .i64 c2)) (({ Y with drawn := Y.drawn + 1 } : World).alloc (.cells #[.int .i64 0, .int .i64 0, .int .i64 0, .int .i64 0] 36)) ∧ Calls Try.prog 33 #[.pointer (some ⟨a.rb, 0, none⟩), .agg #[.int .i64 c1, .int .i64 c2]] (({ Y with drawn := Y.drawn + 1 } : World).alloc (.cells #[.int .i64 0, .int .i64 0, .int .i64 0, .int .i64 0] 36)) fun e v2 => e = .returned (.tuple #[.agg #[.int .i64 u.s, .int .i64 u.i, .int .i64 u.e, .int .i64 u.v], .bool kn, .int .i64 cd]) ∧ (fun wq => wq.cell? ⟨a.pb, 1, none⟩ = some (.pointer (some ⟨a.rb, 0, none⟩)) ∧ wq.cell? ⟨bx, 0, none⟩ = some (.int .i64 c1) ∧ wq.cell? ⟨bx, 1, none⟩ = some (.int .i64 c2)) v2 ∧ Blk v2 Y.heap.size #[.int .i64 0, .int .i64 0, .int .i64 0, .int .i64 0] 36 ∧ (fun wq => wq.cell? ⟨a.pb, 1, none⟩ = some (.pointer (some ⟨a.rb, 0, none⟩)) ∧ wq.cell? ⟨bx, 0, none⟩ = some (.int .i64 c1) ∧ wq.cell? ⟨bx, 1, none⟩ = some (.int .i64 c2)) ((((World.setCell v2 ⟨Y.heap.size, 0, none⟩ (.int .i64 u.s)).setCell ⟨Y.heap.size, 1, none⟩ (.int .i64 u.i)).setCell ⟨Y.heap.size, 2, none⟩ (.int .i64 u.e)).setCell ⟨Y.heap.size, 3, none⟩ (.int .i64 u.v)) ∧ ∃ r', RBeg a.ca s.r r' c1 c2 ∧ AS (has (a.ents s)) w (boxE a.L Y.heap.size #[.int .i64 u.s, .int .i64 u.i, .int .i64 u.e, .int .i64 u.v] 36 :: boxE a.L ub #[.int .i64 u.s, .int .i64 u.i, .int .i64 u.e, .int .i64 u.v] 36 :: boxE a.L bx #[.int .i64 c1, .int .i64 c2] 32 :: (boxE a.L a.pb (pairV a.ca.cb a.rb s.mark s.z) 57 :: cmE a.L a.ca X1 :: rcE a.L a.ca a.rb r' :: s.z.ents a.L)) ((((World.setCell v2 ⟨Y.heap.size, 0, none⟩ (.int .i64 u.s)).setCell ⟨Y.heap.size, 1, none⟩ (.int .i64 u.i)).setCell ⟨Y.heap.size, 2, none⟩ (.int .i64 u.e)).setCell ⟨Y.heap.size, 3, none⟩ (.int .i64 u.v))) := by
      have h0 := HAY.out.more (Below.drew (Below.refl Y.heap.size Y))
      have h1 := h0.fresh (e := boxE a.L Y.heap.size #[.int .i64 0, .int .i64 0, .int .i64 0, .int .i64 0] 36) (w' := ({ Y with drawn := Y.drawn + 1 } : World).alloc (.cells #[.int .i64 0, .int .i64 0, .int .i64 0, .int .i64 0] 36)) ((Below.refl _ _).alloc (Nat.le_refl _) _) ⟨heap_alloc_new ({ Y with drawn := Y.drawn + 1 } : World) _, Nat.le_trans HL.out h0.chg.size⟩ (fun k e => by rw [e]; exact Nat.le_refl _)
      refine ⟨HCL2.out _ _ h1 (by simp) (by simp), Calls.mono (HM2.out [boxE a.L Y.heap.size #[.int .i64 0, .int .i64 0, .int .i64 0, .int .i64 0] 36, boxE a.L ub #[.int .i64 u.s, .int .i64 u.i, .int .i64 u.e, .int .i64 u.v] 36, boxE a.L bx #[.int .i64 c1, .int .i64 c2] 32] _ h1) ?_⟩
      rintro e v2 ⟨rfl, r', hrb, hA2⟩
      have hBz : Blk v2 Y.heap.size #[.int .i64 0, .int .i64 0, .int .i64 0, .int .i64 0] 36 := hA2.head.1
      obtain ⟨b4, c4, _⟩ := blk4 hBz (.int .i64 u.s) (.int .i64 u.i) (.int .i64 u.e) (.int .i64 u.v)
      have hA3 := hA2.swap (e' := boxE a.L Y.heap.size #[.int .i64 u.s, .int .i64 u.i, .int .i64 u.e, .int .i64 u.v] 36) c4 ⟨b4, hA2.head.2⟩ (fun k hk => Or.inl hk)
      exact ⟨rfl, HCL2.out _ _ hA2 (by simp) (by simp), hBz, HCL2.out _ _ hA3 (by simp) (by simp), ⟨r', hrb, hA3⟩⟩
    clear HM2
    refine wp_region_plan (fun wq => wq.cell? ⟨a.pb, 1, none⟩ = some (.pointer (some ⟨a.rb, 0, none⟩)) ∧ wq.cell? ⟨bx, 0, none⟩ = some (.int .i64 c1) ∧ wq.cell? ⟨bx, 1, none⟩ = some (.int .i64 c2)) (fun i => i == 5 || i == 10 || i == 11 || i == 99) 99 (.one 0 (.one 1 (.one 2 (.one 3 (.one 4 (.two 5 10 (.one 6 (.one 7 (.one 8 (.one 9 (.one 10 (.one 11 (.one 12 (.one 13 (.done))))))))) (.one 5 (.one 6 (.one 7 (.one 8 (.one 9 (.one 11 (.one 12 (.one 13 (.done))))))))))))))) (by kernel_rfl) rfl (by kernel_rfl) (by kernel_rfl) rfl (by kernel_rfl) ?_
    refine withFrG (N := 45) rfl ?_
    intro a0 f0 F0 hff
    have hs0 : f0 0 = Value.pointer (some ⟨a.pb, 0, none⟩) := hff 0
    have hs3 : f0 3 = Value.pointer (some ⟨bx, 0, none⟩) := hff 3
    have hs5 : f0 5 = Value.pointer (some ⟨ub, 0, none⟩) := hff 5
    have hs6 : f0 6 = Value.bool kn := hff 6
    have hs7 : f0 7 = Value.int .i64 cd := hff 7
    clear hff
    have HCC : (fun wq => wq.cell? ⟨a.pb, 1, none⟩ = some (.pointer (some ⟨a.rb, 0, none⟩)) ∧ wq.cell? ⟨bx, 0, none⟩ = some (.int .i64 c1) ∧ wq.cell? ⟨bx, 1, none⟩ = some (.int .i64 c2)) ({ Y with drawn := Y.drawn + 1 } : World) := HCY.out
    refine py (k := 0) rfl F0 rfl HCC rfl (by omega) (wanted_none rfl) (v := Value.pointer (some ⟨a.pb, 0, none⟩)) (fun wr hwr => by simp only [execOp, (F0.eval 0 (by omega)).trans (show _ = Value.pointer (some ⟨a.pb, 0, none⟩) from by simp [upd, hs0, hs3, hs5, hs6, hs7])]; first | rfl | simp [go_sem]) fun aFq1 Fq1 => ?_
    refine py (k := 1) rfl Fq1 rfl HCC rfl (by omega) (wanted_none rfl) (v := Value.pointer (some ⟨a.pb, 0, none⟩)) (fun wr hwr => by simp only [execOp, (Fq1.eval 22 (by omega)).trans (show _ = Value.pointer (some ⟨a.pb, 0, none⟩) from by simp [upd, hs0, hs3, hs5, hs6, hs7])]; simp [go_sem]) fun aFq2 Fq2 => ?_
    refine py (k := 2) rfl Fq2 rfl HCC rfl (by omega) (wanted_none rfl) (v := Value.pointer (some ⟨a.pb, 1, none⟩)) (fun wr hwr => by simp only [execOp, (Fq2.eval 23 (by omega)).trans (show _ = Value.pointer (some ⟨a.pb, 0, none⟩) from by simp [upd, hs0, hs3, hs5, hs6, hs7])]; simp [go_sem]) fun aFq3 Fq3 => ?_
    refine py (k := 3) rfl Fq3 rfl HCC rfl (by omega) (wanted_none rfl) (v := Value.pointer (some ⟨a.rb, 0, none⟩)) (fun wr hwr => by simp only [execOp, (Fq3.eval 24 (by omega)).trans (show _ = Value.pointer (some ⟨a.pb, 1, none⟩) from by simp [upd, hs0, hs3, hs5, hs6, hs7])]; simp [go_sem, hwr.1]) fun aFq4 Fq4 => ?_
    refine py (k := 4) rfl Fq4 rfl HCC rfl (by omega) (wanted_none rfl) (v := Value.agg #[.int .i64 c1, .int .i64 c2]) (fun wr hwr => by simp only [execOp, (Fq4.eval 3 (by omega)).trans (show _ = Value.pointer (some ⟨bx, 0, none⟩) from by simp [upd, hs0, hs3, hs5, hs6, hs7])]; simp [go_sem, hwr.2.1, hwr.2.2]) fun aFq5 Fq5 => ?_
    refine pfork HCC ?_ ?_
    · refine pc' (k := 5) rfl Fq5 rfl rfl (by omega) (wanted_none rfl) (g := 33) (args := #[Value.pointer (some ⟨a.rb, 0, none⟩), Value.agg #[.int .i64 c1, .int .i64 c2]]) (by simp only [execOp, resolve, invoke, List.map_toArray, List.map_cons, List.map_nil, (Fq5.eval 25 (by omega)).trans (show _ = Value.pointer (some ⟨a.rb, 0, none⟩) from by simp [upd, hs0, hs3, hs5, hs6, hs7]), (Fq5.eval 26 (by omega)).trans (show _ = Value.agg #[.int .i64 c1, .int .i64 c2] from by simp [upd, hs0, hs3, hs5, hs6, hs7])]; simp [go_sem, Act.eval]) HA2.out ?_
      rintro e v2 ⟨rfl, hC2, hC3, hC4, hfin⟩
      refine ⟨_, rfl, fun aFqx6 Fqx6 => ?_⟩
      refine py (k := 6) rfl Fqx6 rfl hC2 rfl (by omega) (wanted_none rfl) (v := Value.tuple #[.agg #[.int .i64 u.s, .int .i64 u.i, .int .i64 u.e, .int .i64 u.v], .bool kn, .int .i64 cd]) (fun wr hwr => by simp only [execOp, (Fqx6.eval 27 (by omega)).trans (show _ = Value.tuple #[.agg #[.int .i64 u.s, .int .i64 u.i, .int .i64 u.e, .int .i64 u.v], .bool kn, .int .i64 cd] from by simp [upd, hs0, hs3, hs5, hs6, hs7])]; first | rfl | simp [go_sem]) fun aFqx7 Fqx7 => ?_
      refine py (k := 7) rfl Fqx7 rfl hC2 rfl (by omega) (wanted_none rfl) (v := Value.agg #[.int .i64 u.s, .int .i64 u.i, .int .i64 u.e, .int .i64 u.v]) (fun wr hwr => by simp only [execOp, (Fqx7.eval 21 (by omega)).trans (show _ = Value.tuple #[.agg #[.int .i64 u.s, .int .i64 u.i, .int .i64 u.e, .int .i64 u.v], .bool kn, .int .i64 cd] from by simp [upd, hs0, hs3, hs5, hs6, hs7])]; simp [go_sem]) fun aFqx8 Fqx8 => ?_
      refine py (k := 8) rfl Fqx8 rfl hC2 rfl (by omega) (wanted_none rfl) (v := Value.bool kn) (fun wr hwr => by simp only [execOp, (Fqx8.eval 21 (by omega)).trans (show _ = Value.tuple #[.agg #[.int .i64 u.s, .int .i64 u.i, .int .i64 u.e, .int .i64 u.v], .bool kn, .int .i64 cd] from by simp [upd, hs0, hs3, hs5, hs6, hs7])]; simp [go_sem]) fun aFqx9 Fqx9 => ?_
      refine py (k := 9) rfl Fqx9 rfl hC2 rfl (by omega) (wanted_none rfl) (v := Value.int .i64 cd) (fun wr hwr => by simp only [execOp, (Fqx9.eval 21 (by omega)).trans (show _ = Value.tuple #[.agg #[.int .i64 u.s, .int .i64 u.i, .int .i64 u.e, .int .i64 u.v], .bool kn, .int .i64 cd] from by simp [upd, hs0, hs3, hs5, hs6, hs7])]; simp [go_sem]) fun aFqx10 Fqx10 => ?_
      refine pe (k := 10) rfl Fqx10 rfl hC2 rfl (by omega) (wanted_none rfl) (v := Value.pointer (some ⟨v2.heap.size, 0, none⟩)) (w1 := v2.alloc (.cells #[.int .i64 0, .int .i64 0, .int .i64 0, .int .i64 0] 36)) (by simp only [execOp]; simp [go_sem, zero36]) fun aFqx11 Fqx11 => ?_
      refine ps (k := 11) rfl rfl hC3 rfl (wanted_none rfl) (w1 := v2.alloc (.cells #[.int .i64 u.s, .int .i64 u.i, .int .i64 u.e, .int .i64 u.v] 36)) (by simp only [execOp, (Fqx11.eval 8 (by omega)).trans (show _ = Value.pointer (some ⟨v2.heap.size, 0, none⟩) from by simp [upd, hs0, hs3, hs5, hs6, hs7]), (Fqx11.eval 28 (by omega)).trans (show _ = Value.agg #[.int .i64 u.s, .int .i64 u.i, .int .i64 u.e, .int .i64 u.v] from by simp [upd, hs0, hs3, hs5, hs6, hs7])]; simp [go_sem]) ?_
      refine py (k := 12) rfl Fqx11 rfl hC4 rfl (by omega) (wanted_none rfl) (v := Value.bool kn) (fun wr hwr => by simp only [execOp, (Fqx11.eval 29 (by omega)).trans (show _ = Value.bool kn from by simp [upd, hs0, hs3, hs5, hs6, hs7])]; first | rfl | simp [go_sem]) fun aFqx12 Fqx12 => ?_
      refine py (k := 13) rfl Fqx12 rfl hC4 rfl (by omega) (wanted_none rfl) (v := Value.int .i64 cd) (fun wr hwr => by simp only [execOp, (Fqx12.eval 30 (by omega)).trans (show _ = Value.int .i64 cd from by simp [upd, hs0, hs3, hs5, hs6, hs7])]; first | rfl | simp [go_sem]) fun aFqx13 Fqx13 => ?_
      refine pdone (fun _ => hC4) ?_
      exact hrest2 _ _ _ _ Fqx13 (show _ = Value.pointer (some ⟨a.pb, 0, none⟩) from by simp [upd, hs0, hs3, hs5, hs6, hs7]) (show _ = Value.pointer (some ⟨bx, 0, none⟩) from by simp [upd, hs0, hs3, hs5, hs6, hs7]) (show _ = Value.pointer (some ⟨ub, 0, none⟩) from by simp [upd, hs0, hs3, hs5, hs6, hs7]) (show _ = Value.bool kn from by simp [upd, hs0, hs3, hs5, hs6, hs7]) (show _ = Value.int .i64 cd from by simp [upd, hs0, hs3, hs5, hs6, hs7]) (show _ = Value.pointer (some ⟨v2.heap.size, 0, none⟩) from by simp [upd, hs0, hs3, hs5, hs6, hs7]) (show _ = Value.bool kn from by simp [upd, hs0, hs3, hs5, hs6, hs7]) (show _ = Value.int .i64 cd from by simp [upd, hs0, hs3, hs5, hs6, hs7]) hfin
    · refine pe' (k := 10) rfl Fq5 rfl rfl (by omega) (wanted_none rfl) (v := Value.pointer (some ⟨Y.heap.size, 0, none⟩)) (w1 := (({ Y with drawn := Y.drawn + 1 } : World).alloc (.cells #[.int .i64 0, .int .i64 0, .int .i64 0, .int .i64 0] 36))) (by simp only [execOp]; simp [go_sem, zero36]) fun aFqy14 Fqy14 => ?_
      refine pc (k := 5) rfl Fqy14 rfl HB2.out.1 rfl (by omega) (wanted_none rfl) (g := 33) (args := #[Value.pointer (some ⟨a.rb, 0, none⟩), Value.agg #[.int .i64 c1, .int .i64 c2]]) (by simp only [execOp, resolve, invoke, List.map_toArray, List.map_cons, List.map_nil, (Fqy14.eval 25 (by omega)).trans (show _ = Value.pointer (some ⟨a.rb, 0, none⟩) from by simp [upd, hs0, hs3, hs5, hs6, hs7]), (Fqy14.eval 26 (by omega)).trans (show _ = Value.agg #[.int .i64 c1, .int .i64 c2] from by simp [upd, hs0, hs3, hs5, hs6, hs7])]; simp [go_sem, Act.eval]) HB2.out.2 ?_
      rintro e v2 ⟨rfl, hC2, hBz, hC4, hfin⟩
      refine ⟨_, rfl, fun aFqy15 Fqy15 => ?_⟩
      refine py (k := 6) rfl Fqy15 rfl hC2 rfl (by omega) (wanted_none rfl) (v := Value.tuple #[.agg #[.int .i64 u.s, .int .i64 u.i, .int .i64 u.e, .int .i64 u.v], .bool kn, .int .i64 cd]) (fun wr hwr => by simp only [execOp, (Fqy15.eval 27 (by omega)).trans (show _ = Value.tuple #[.agg #[.int .i64 u.s, .int .i64 u.i, .int .i64 u.e, .int .i64 u.v], .bool kn, .int .i64 cd] from by simp [upd, hs0, hs3, hs5, hs6, hs7])]; first | rfl | simp [go_sem]) fun aFqy16 Fqy16 => ?_
      refine py (k := 7) rfl Fqy16 rfl hC2 rfl (by omega) (wanted_none rfl) (v := Value.agg #[.int .i64 u.s, .int .i64 u.i, .int .i64 u.e, .int .i64 u.v]) (fun wr hwr => by simp only [execOp, (Fqy16.eval 21 (by omega)).trans (show _ = Value.tuple #[.agg #[.int .i64 u.s, .int .i64 u.i, .int .i64 u.e, .int .i64 u.v], .bool kn, .int .i64 cd] from by simp [upd, hs0, hs3, hs5, hs6, hs7])]; simp [go_sem]) fun aFqy17 Fqy17 => ?_
      refine py (k := 8) rfl Fqy17 rfl hC2 rfl (by omega) (wanted_none rfl) (v := Value.bool kn) (fun wr hwr => by simp only [execOp, (Fqy17.eval 21 (by omega)).trans (show _ = Value.tuple #[.agg #[.int .i64 u.s, .int .i64 u.i, .int .i64 u.e, .int .i64 u.v], .bool kn, .int .i64 cd] from by simp [upd, hs0, hs3, hs5, hs6, hs7])]; simp [go_sem]) fun aFqy18 Fqy18 => ?_
      refine py (k := 9) rfl Fqy18 rfl hC2 rfl (by omega) (wanted_none rfl) (v := Value.int .i64 cd) (fun wr hwr => by simp only [execOp, (Fqy18.eval 21 (by omega)).trans (show _ = Value.tuple #[.agg #[.int .i64 u.s, .int .i64 u.i, .int .i64 u.e, .int .i64 u.v], .bool kn, .int .i64 cd] from by simp [upd, hs0, hs3, hs5, hs6, hs7])]; simp [go_sem]) fun aFqy19 Fqy19 => ?_
      refine ps (k := 11) rfl rfl hC2 rfl (wanted_none rfl) (store4 hBz u rfl ((Fqy19.eval 8 (by omega)).trans (show _ = Value.pointer (some ⟨Y.heap.size, 0, none⟩) from by simp [upd, hs0, hs3, hs5, hs6, hs7])) ((Fqy19.eval 28 (by omega)).trans (show _ = Value.agg #[.int .i64 u.s, .int .i64 u.i, .int .i64 u.e, .int .i64 u.v] from by simp [upd, hs0, hs3, hs5, hs6, hs7]))) ?_
      refine py (k := 12) rfl Fqy19 rfl hC4 rfl (by omega) (wanted_none rfl) (v := Value.bool kn) (fun wr hwr => by simp only [execOp, (Fqy19.eval 29 (by omega)).trans (show _ = Value.bool kn from by simp [upd, hs0, hs3, hs5, hs6, hs7])]; first | rfl | simp [go_sem]) fun aFqy20 Fqy20 => ?_
      refine py (k := 13) rfl Fqy20 rfl hC4 rfl (by omega) (wanted_none rfl) (v := Value.int .i64 cd) (fun wr hwr => by simp only [execOp, (Fqy20.eval 30 (by omega)).trans (show _ = Value.int .i64 cd from by simp [upd, hs0, hs3, hs5, hs6, hs7])]; first | rfl | simp [go_sem]) fun aFqy21 Fqy21 => ?_
      refine pdone (fun _ => hC4) ?_
      exact hrest2 _ _ _ _ Fqy21 (show _ = Value.pointer (some ⟨a.pb, 0, none⟩) from by simp [upd, hs0, hs3, hs5, hs6, hs7]) (show _ = Value.pointer (some ⟨bx, 0, none⟩) from by simp [upd, hs0, hs3, hs5, hs6, hs7]) (show _ = Value.pointer (some ⟨ub, 0, none⟩) from by simp [upd, hs0, hs3, hs5, hs6, hs7]) (show _ = Value.bool kn from by simp [upd, hs0, hs3, hs5, hs6, hs7]) (show _ = Value.int .i64 cd from by simp [upd, hs0, hs3, hs5, hs6, hs7]) (show _ = Value.pointer (some ⟨Y.heap.size, 0, none⟩) from by simp [upd, hs0, hs3, hs5, hs6, hs7]) (show _ = Value.bool kn from by simp [upd, hs0, hs3, hs5, hs6, hs7]) (show _ = Value.int .i64 cd from by simp [upd, hs0, hs3, hs5, hs6, hs7]) hfin

  clear hK
  have HCX : Hid ((fun wq => wq.cell? ⟨a.pb, 0, none⟩ = some (.pointer (some ⟨a.ca.cb, 0, none⟩)) ∧ wq.cell? ⟨bx, 0, none⟩ = some (.int .i64 c1) ∧ wq.cell? ⟨bx, 1, none⟩ = some (.int .i64 c2)) ({ X with drawn := X.drawn + 1 } : World)) := HCL1.out ({ X with drawn := X.drawn + 1 } : World) _ (HAX.out.more (Below.drew (Below.refl X.heap.size X))) (by simp) (by simp)
  have HA : Hid (Calls Try.prog 13 #[.pointer (some ⟨a.ca.cb, 0, none⟩), .agg #[.int .i64 c1, .int .i64 c2]] ({ X with drawn := X.drawn + 1 } : World) fun e v2 => e = .returned (.tuple #[.agg #[.int .i64 u.s, .int .i64 u.i, .int .i64 u.e, .int .i64 u.v], .bool kn, .int .i64 cd]) ∧ (fun wq => wq.cell? ⟨a.pb, 0, none⟩ = some (.pointer (some ⟨a.ca.cb, 0, none⟩)) ∧ wq.cell? ⟨bx, 0, none⟩ = some (.int .i64 c1) ∧ wq.cell? ⟨bx, 1, none⟩ = some (.int .i64 c2)) v2 ∧ (fun wq => wq.cell? ⟨a.pb, 0, none⟩ = some (.pointer (some ⟨a.ca.cb, 0, none⟩)) ∧ wq.cell? ⟨bx, 0, none⟩ = some (.int .i64 c1) ∧ wq.cell? ⟨bx, 1, none⟩ = some (.int .i64 c2)) (v2.alloc (.cells #[.int .i64 0, .int .i64 0, .int .i64 0, .int .i64 0] 36)) ∧ (fun wq => wq.cell? ⟨a.pb, 0, none⟩ = some (.pointer (some ⟨a.ca.cb, 0, none⟩)) ∧ wq.cell? ⟨bx, 0, none⟩ = some (.int .i64 c1) ∧ wq.cell? ⟨bx, 1, none⟩ = some (.int .i64 c2)) (v2.alloc (.cells #[.int .i64 u.s, .int .i64 u.i, .int .i64 u.e, .int .i64 u.v] 36)) ∧ AS (has (a.ents s)) w (boxE a.L v2.heap.size #[.int .i64 u.s, .int .i64 u.i, .int .i64 u.e, .int .i64 u.v] 36 :: boxE a.L bx #[.int .i64 c1, .int .i64 c2] 32 :: (boxE a.L a.pb (pairV a.ca.cb a.rb s.mark s.z) 57 :: cmE a.L a.ca X1 :: rcE a.L a.ca a.rb s.r :: s.z.ents a.L)) (v2.alloc (.cells #[.int .i64 u.s, .int .i64 u.i, .int .i64 u.e, .int .i64 u.v] 36))) := by
    have h0 := HAX.out.more (Below.drew (Below.refl X.heap.size X))
    refine Calls.mono (HM1.out [boxE a.L bx #[.int .i64 c1, .int .i64 c2] 32] ({ X with drawn := X.drawn + 1 } : World) h0) ?_
    rintro e v2 ⟨rfl, hA2⟩
    have ha : ∀ C, Below v2.heap.size v2 (v2.alloc (.cells C 36)) := fun C => (Below.refl _ _).alloc (Nat.le_refl _) _
    refine ⟨rfl, HCL1.out v2 _ hA2 (by simp) (by simp), HCL1.out _ _ (hA2.more (ha _)) (by simp) (by simp), HCL1.out _ _ (hA2.more (ha _)) (by simp) (by simp), ?_⟩
    exact hA2.fresh (ha _) ⟨heap_alloc_new v2 _, Nat.le_trans HL.out hA2.chg.size⟩ (fun k e => by rw [e]; exact Nat.le_refl _)
  have HB : Hid ((fun wq => wq.cell? ⟨a.pb, 0, none⟩ = some (.pointer (some ⟨a.ca.cb, 0, none⟩)) ∧ wq.cell? ⟨bx, 0, none⟩ = some (.int .i64 c1) ∧ wq.cell? ⟨bx, 1, none⟩ = some (.int .i64 c2)) (({ X with drawn := X.drawn + 1 } : World).alloc (.cells #[.int .i64 0, .int .i64 0, .int .i64 0, .int .i64 0] 36)) ∧ Calls Try.prog 13 #[.pointer (some ⟨a.ca.cb, 0, none⟩), .agg #[.int .i64 c1, .int .i64 c2]] (({ X with drawn := X.drawn + 1 } : World).alloc (.cells #[.int .i64 0, .int .i64 0, .int .i64 0, .int .i64 0] 36)) fun e v2 => e = .returned (.tuple #[.agg #[.int .i64 u.s, .int .i64 u.i, .int .i64 u.e, .int .i64 u.v], .bool kn, .int .i64 cd]) ∧ (fun wq => wq.cell? ⟨a.pb, 0, none⟩ = some (.pointer (some ⟨a.ca.cb, 0, none⟩)) ∧ wq.cell? ⟨bx, 0, none⟩ = some (.int .i64 c1) ∧ wq.cell? ⟨bx, 1, none⟩ = some (.int .i64 c2)) v2 ∧ Blk v2 X.heap.size #[.int .i64 0, .int .i64 0, .int .i64 0, .int .i64 0] 36 ∧ (fun wq => wq.cell? ⟨a.pb, 0, none⟩ = some (.pointer (some ⟨a.ca.cb, 0, none⟩)) ∧ wq.cell? ⟨bx, 0, none⟩ = some (.int .i64 c1) ∧ wq.cell? ⟨bx, 1, none⟩ = some (.int .i64 c2)) ((((World.setCell v2 ⟨X.heap.size, 0, none⟩ (.int .i64 u.s)).setCell ⟨X.heap.size, 1, none⟩ (.int .i64 u.i)).setCell ⟨X.heap.size, 2, none⟩ (.int .i64 u.e)).setCell ⟨X.heap.size, 3, none⟩ (.int .i64 u.v)) ∧ AS (has (a.ents s)) w (boxE a.L X.heap.size #[.int .i64 u.s, .int .i64 u.i, .int .i64 u.e, .int .i64 u.v] 36 :: boxE a.L bx #[.int .i64 c1, .int .i64 c2] 32 :: (boxE a.L a.pb (pairV a.ca.cb a.rb s.mark s.z) 57 :: cmE a.L a.ca X1 :: rcE a.L a.ca a.rb s.r :: s.z.ents a.L)) ((((World.setCell v2 ⟨X.heap.size, 0, none⟩ (.int .i64 u.s)).setCell ⟨X.heap.size, 1, none⟩ (.int .i64 u.i)).setCell ⟨X.heap.size, 2, none⟩ (.int .i64 u.e)).setCell ⟨X.heap.size, 3, none⟩ (.int .i64 u.v))) := by
    have h0 := HAX.out.more (Below.drew (Below.refl X.heap.size X))
    have h1 := h0.fresh (e := boxE a.L X.heap.size #[.int .i64 0, .int .i64 0, .int .i64 0, .int .i64 0] 36) (w' := ({ X with drawn := X.drawn + 1 } : World).alloc (.cells #[.int .i64 0, .int .i64 0, .int .i64 0, .int .i64 0] 36)) ((Below.refl _ _).alloc (Nat.le_refl _) _) ⟨heap_alloc_new ({ X with drawn := X.drawn + 1 } : World) _, Nat.le_trans HL.out h0.chg.size⟩ (fun k e => by rw [e]; exact Nat.le_refl _)
    refine ⟨HCL1.out _ _ h1 (by simp) (by simp), Calls.mono (HM1.out [boxE a.L X.heap.size #[.int .i64 0, .int .i64 0, .int .i64 0, .int .i64 0] 36, boxE a.L bx #[.int .i64 c1, .int .i64 c2] 32] _ h1) ?_⟩
    rintro e v2 ⟨rfl, hA2⟩
    have hBz : Blk v2 X.heap.size #[.int .i64 0, .int .i64 0, .int .i64 0, .int .i64 0] 36 := hA2.head.1
    obtain ⟨b4, c4, _⟩ := blk4 hBz (.int .i64 u.s) (.int .i64 u.i) (.int .i64 u.e) (.int .i64 u.v)
    have hA3 := hA2.swap (e' := boxE a.L X.heap.size #[.int .i64 u.s, .int .i64 u.i, .int .i64 u.e, .int .i64 u.v] 36) c4 ⟨b4, hA2.head.2⟩ (fun k hk => Or.inl hk)
    exact ⟨rfl, HCL1.out _ _ hA2 (by simp) (by simp), hBz, HCL1.out _ _ hA3 (by simp) (by simp), hA3⟩
  clear HM1
  refine wp_region_plan (fun wq => wq.cell? ⟨a.pb, 0, none⟩ = some (.pointer (some ⟨a.ca.cb, 0, none⟩)) ∧ wq.cell? ⟨bx, 0, none⟩ = some (.int .i64 c1) ∧ wq.cell? ⟨bx, 1, none⟩ = some (.int .i64 c2)) (fun i => i == 5 || i == 10 || i == 11 || i == 99) 99 (.one 0 (.one 1 (.one 2 (.one 3 (.one 4 (.two 5 10 (.one 6 (.one 7 (.one 8 (.one 9 (.one 10 (.one 11 (.one 12 (.one 13 (.done))))))))) (.one 5 (.one 6 (.one 7 (.one 8 (.one 9 (.one 11 (.one 12 (.one 13 (.done))))))))))))))) (by kernel_rfl) rfl (by kernel_rfl) (by kernel_rfl) rfl (by kernel_rfl) ?_
  refine withFrG (N := 45) rfl ?_
  intro a0 f0 F0 hff
  have hs0 : f0 0 = Value.pointer (some ⟨a.pb, 0, none⟩) := hff 0
  have hs3 : f0 3 = Value.pointer (some ⟨bx, 0, none⟩) := hff 3
  clear hff
  have HCC : (fun wq => wq.cell? ⟨a.pb, 0, none⟩ = some (.pointer (some ⟨a.ca.cb, 0, none⟩)) ∧ wq.cell? ⟨bx, 0, none⟩ = some (.int .i64 c1) ∧ wq.cell? ⟨bx, 1, none⟩ = some (.int .i64 c2)) ({ X with drawn := X.drawn + 1 } : World) := HCX.out
  refine py (k := 0) rfl F0 rfl HCC rfl (by omega) (wanted_none rfl) (v := Value.pointer (some ⟨a.pb, 0, none⟩)) (fun wr hwr => by simp only [execOp, (F0.eval 0 (by omega)).trans (show _ = Value.pointer (some ⟨a.pb, 0, none⟩) from by simp [upd, hs0, hs3])]; first | rfl | simp [go_sem]) fun aFp1 Fp1 => ?_
  refine py (k := 1) rfl Fp1 rfl HCC rfl (by omega) (wanted_none rfl) (v := Value.pointer (some ⟨a.pb, 0, none⟩)) (fun wr hwr => by simp only [execOp, (Fp1.eval 12 (by omega)).trans (show _ = Value.pointer (some ⟨a.pb, 0, none⟩) from by simp [upd, hs0, hs3])]; simp [go_sem]) fun aFp2 Fp2 => ?_
  refine py (k := 2) rfl Fp2 rfl HCC rfl (by omega) (wanted_none rfl) (v := Value.pointer (some ⟨a.pb, 0, none⟩)) (fun wr hwr => by simp only [execOp, (Fp2.eval 13 (by omega)).trans (show _ = Value.pointer (some ⟨a.pb, 0, none⟩) from by simp [upd, hs0, hs3])]; simp [go_sem]) fun aFp3 Fp3 => ?_
  refine py (k := 3) rfl Fp3 rfl HCC rfl (by omega) (wanted_none rfl) (v := Value.pointer (some ⟨a.ca.cb, 0, none⟩)) (fun wr hwr => by simp only [execOp, (Fp3.eval 14 (by omega)).trans (show _ = Value.pointer (some ⟨a.pb, 0, none⟩) from by simp [upd, hs0, hs3])]; simp [go_sem, hwr.1]) fun aFp4 Fp4 => ?_
  refine py (k := 4) rfl Fp4 rfl HCC rfl (by omega) (wanted_none rfl) (v := Value.agg #[.int .i64 c1, .int .i64 c2]) (fun wr hwr => by simp only [execOp, (Fp4.eval 3 (by omega)).trans (show _ = Value.pointer (some ⟨bx, 0, none⟩) from by simp [upd, hs0, hs3])]; simp [go_sem, hwr.2.1, hwr.2.2]) fun aFp5 Fp5 => ?_
  refine pfork HCC ?_ ?_
  · refine pc' (k := 5) rfl Fp5 rfl rfl (by omega) (wanted_none rfl) (g := 13) (args := #[Value.pointer (some ⟨a.ca.cb, 0, none⟩), Value.agg #[.int .i64 c1, .int .i64 c2]]) (by simp only [execOp, resolve, invoke, List.map_toArray, List.map_cons, List.map_nil, (Fp5.eval 15 (by omega)).trans (show _ = Value.pointer (some ⟨a.ca.cb, 0, none⟩) from by simp [upd, hs0, hs3]), (Fp5.eval 16 (by omega)).trans (show _ = Value.agg #[.int .i64 c1, .int .i64 c2] from by simp [upd, hs0, hs3])]; simp [go_sem, Act.eval]) HA.out ?_
    rintro e v2 ⟨rfl, hC2, hC3, hC4, hfin⟩
    refine ⟨_, rfl, fun aFpx6 Fpx6 => ?_⟩
    refine py (k := 6) rfl Fpx6 rfl hC2 rfl (by omega) (wanted_none rfl) (v := Value.tuple #[.agg #[.int .i64 u.s, .int .i64 u.i, .int .i64 u.e, .int .i64 u.v], .bool kn, .int .i64 cd]) (fun wr hwr => by simp only [execOp, (Fpx6.eval 17 (by omega)).trans (show _ = Value.tuple #[.agg #[.int .i64 u.s, .int .i64 u.i, .int .i64 u.e, .int .i64 u.v], .bool kn, .int .i64 cd] from by simp [upd, hs0, hs3])]; first | rfl | simp [go_sem]) fun aFpx7 Fpx7 => ?_
    refine py (k := 7) rfl Fpx7 rfl hC2 rfl (by omega) (wanted_none rfl) (v := Value.agg #[.int .i64 u.s, .int .i64 u.i, .int .i64 u.e, .int .i64 u.v]) (fun wr hwr => by simp only [execOp, (Fpx7.eval 11 (by omega)).trans (show _ = Value.tuple #[.agg #[.int .i64 u.s, .int .i64 u.i, .int .i64 u.e, .int .i64 u.v], .bool kn, .int .i64 cd] from by simp [upd, hs0, hs3])]; simp [go_sem]) fun aFpx8 Fpx8 => ?_
    refine py (k := 8) rfl Fpx8 rfl hC2 rfl (by omega) (wanted_none rfl) (v := Value.bool kn) (fun wr hwr => by simp only [execOp, (Fpx8.eval 11 (by omega)).trans (show _ = Value.tuple #[.agg #[.int .i64 u.s, .int .i64 u.i, .int .i64 u.e, .int .i64 u.v], .bool kn, .int .i64 cd] from by simp [upd, hs0, hs3])]; simp [go_sem]) fun aFpx9 Fpx9 => ?_
    refine py (k := 9) rfl Fpx9 rfl hC2 rfl (by omega) (wanted_none rfl) (v := Value.int .i64 cd) (fun wr hwr => by simp only [execOp, (Fpx9.eval 11 (by omega)).trans (show _ = Value.tuple #[.agg #[.int .i64 u.s, .int .i64 u.i, .int .i64 u.e, .int .i64 u.v], .bool kn, .int .i64 cd] from by simp [upd, hs0, hs3])]; simp [go_sem]) fun aFpx10 Fpx10 => ?_
    refine pe (k := 10) rfl Fpx10 rfl hC2 rfl (by omega) (wanted_none rfl) (v := Value.pointer (some ⟨v2.heap.size, 0, none⟩)) (w1 := v2.alloc (.cells #[.int .i64 0, .int .i64 0, .int .i64 0, .int .i64 0] 36)) (by simp only [execOp]; simp [go_sem, zero36]) fun aFpx11 Fpx11 => ?_
    refine ps (k := 11) rfl rfl hC3 rfl (wanted_none rfl) (w1 := v2.alloc (.cells #[.int .i64 u.s, .int .i64 u.i, .int .i64 u.e, .int .i64 u.v] 36)) (by simp only [execOp, (Fpx11.eval 5 (by omega)).trans (show _ = Value.pointer (some ⟨v2.heap.size, 0, none⟩) from by simp [upd, hs0, hs3]), (Fpx11.eval 18 (by omega)).trans (show _ = Value.agg #[.int .i64 u.s, .int .i64 u.i, .int .i64 u.e, .int .i64 u.v] from by simp [upd, hs0, hs3])]; simp [go_sem]) ?_
    refine py (k := 12) rfl Fpx11 rfl hC4 rfl (by omega) (wanted_none rfl) (v := Value.bool kn) (fun wr hwr => by simp only [execOp, (Fpx11.eval 19 (by omega)).trans (show _ = Value.bool kn from by simp [upd, hs0, hs3])]; first | rfl | simp [go_sem]) fun aFpx12 Fpx12 => ?_
    refine py (k := 13) rfl Fpx12 rfl hC4 rfl (by omega) (wanted_none rfl) (v := Value.int .i64 cd) (fun wr hwr => by simp only [execOp, (Fpx12.eval 20 (by omega)).trans (show _ = Value.int .i64 cd from by simp [upd, hs0, hs3])]; first | rfl | simp [go_sem]) fun aFpx13 Fpx13 => ?_
    refine pdone (fun _ => hC4) ?_
    exact hrest _ _ _ _ Fpx13 (show _ = Value.pointer (some ⟨a.pb, 0, none⟩) from by simp [upd, hs0, hs3]) (show _ = Value.pointer (some ⟨bx, 0, none⟩) from by simp [upd, hs0, hs3]) (show _ = Value.pointer (some ⟨v2.heap.size, 0, none⟩) from by simp [upd, hs0, hs3]) (show _ = Value.bool kn from by simp [upd, hs0, hs3]) (show _ = Value.int .i64 cd from by simp [upd, hs0, hs3]) hfin
  · refine pe' (k := 10) rfl Fp5 rfl rfl (by omega) (wanted_none rfl) (v := Value.pointer (some ⟨X.heap.size, 0, none⟩)) (w1 := (({ X with drawn := X.drawn + 1 } : World).alloc (.cells #[.int .i64 0, .int .i64 0, .int .i64 0, .int .i64 0] 36))) (by simp only [execOp]; simp [go_sem, zero36]) fun aFpy14 Fpy14 => ?_
    refine pc (k := 5) rfl Fpy14 rfl HB.out.1 rfl (by omega) (wanted_none rfl) (g := 13) (args := #[Value.pointer (some ⟨a.ca.cb, 0, none⟩), Value.agg #[.int .i64 c1, .int .i64 c2]]) (by simp only [execOp, resolve, invoke, List.map_toArray, List.map_cons, List.map_nil, (Fpy14.eval 15 (by omega)).trans (show _ = Value.pointer (some ⟨a.ca.cb, 0, none⟩) from by simp [upd, hs0, hs3]), (Fpy14.eval 16 (by omega)).trans (show _ = Value.agg #[.int .i64 c1, .int .i64 c2] from by simp [upd, hs0, hs3])]; simp [go_sem, Act.eval]) HB.out.2 ?_
    rintro e v2 ⟨rfl, hC2, hBz, hC4, hfin⟩
    refine ⟨_, rfl, fun aFpy15 Fpy15 => ?_⟩
    refine py (k := 6) rfl Fpy15 rfl hC2 rfl (by omega) (wanted_none rfl) (v := Value.tuple #[.agg #[.int .i64 u.s, .int .i64 u.i, .int .i64 u.e, .int .i64 u.v], .bool kn, .int .i64 cd]) (fun wr hwr => by simp only [execOp, (Fpy15.eval 17 (by omega)).trans (show _ = Value.tuple #[.agg #[.int .i64 u.s, .int .i64 u.i, .int .i64 u.e, .int .i64 u.v], .bool kn, .int .i64 cd] from by simp [upd, hs0, hs3])]; first | rfl | simp [go_sem]) fun aFpy16 Fpy16 => ?_
    refine py (k := 7) rfl Fpy16 rfl hC2 rfl (by omega) (wanted_none rfl) (v := Value.agg #[.int .i64 u.s, .int .i64 u.i, .int .i64 u.e, .int .i64 u.v]) (fun wr hwr => by simp only [execOp, (Fpy16.eval 11 (by omega)).trans (show _ = Value.tuple #[.agg #[.int .i64 u.s, .int .i64 u.i, .int .i64 u.e, .int .i64 u.v], .bool kn, .int .i64 cd] from by simp [upd, hs0, hs3])]; simp [go_sem]) fun aFpy17 Fpy17 => ?_
    refine py (k := 8) rfl Fpy17 rfl hC2 rfl (by omega) (wanted_none rfl) (v := Value.bool kn) (fun wr hwr => by simp only [execOp, (Fpy17.eval 11 (by omega)).trans (show _ = Value.tuple #[.agg #[.int .i64 u.s, .int .i64 u.i, .int .i64 u.e, .int .i64 u.v], .bool kn, .int .i64 cd] from by simp [upd, hs0, hs3])]; simp [go_sem]) fun aFpy18 Fpy18 => ?_
    refine py (k := 9) rfl Fpy18 rfl hC2 rfl (by omega) (wanted_none rfl) (v := Value.int .i64 cd) (fun wr hwr => by simp only [execOp, (Fpy18.eval 11 (by omega)).trans (show _ = Value.tuple #[.agg #[.int .i64 u.s, .int .i64 u.i, .int .i64 u.e, .int .i64 u.v], .bool kn, .int .i64 cd] from by simp [upd, hs0, hs3])]; simp [go_sem]) fun aFpy19 Fpy19 => ?_
    refine ps (k := 11) rfl rfl hC2 rfl (wanted_none rfl) (store4 hBz u rfl ((Fpy19.eval 5 (by omega)).trans (show _ = Value.pointer (some ⟨X.heap.size, 0, none⟩) from by simp [upd, hs0, hs3])) ((Fpy19.eval 18 (by omega)).trans (show _ = Value.agg #[.int .i64 u.s, .int .i64 u.i, .int .i64 u.e, .int .i64 u.v] from by simp [upd, hs0, hs3]))) ?_
    refine py (k := 12) rfl Fpy19 rfl hC4 rfl (by omega) (wanted_none rfl) (v := Value.bool kn) (fun wr hwr => by simp only [execOp, (Fpy19.eval 19 (by omega)).trans (show _ = Value.bool kn from by simp [upd, hs0, hs3])]; first | rfl | simp [go_sem]) fun aFpy20 Fpy20 => ?_
    refine py (k := 13) rfl Fpy20 rfl hC4 rfl (by omega) (wanted_none rfl) (v := Value.int .i64 cd) (fun wr hwr => by simp only [execOp, (Fpy20.eval 20 (by omega)).trans (show _ = Value.int .i64 cd from by simp [upd, hs0, hs3])]; first | rfl | simp [go_sem]) fun aFpy21 Fpy21 => ?_
    refine pdone (fun _ => hC4) ?_
    exact hrest _ _ _ _ Fpy21 (show _ = Value.pointer (some ⟨a.pb, 0, none⟩) from by simp [upd, hs0, hs3]) (show _ = Value.pointer (some ⟨bx, 0, none⟩) from by simp [upd, hs0, hs3]) (show _ = Value.pointer (some ⟨X.heap.size, 0, none⟩) from by simp [upd, hs0, hs3]) (show _ = Value.bool kn from by simp [upd, hs0, hs3]) (show _ = Value.int .i64 cd from by simp [upd, hs0, hs3]) hfin

end Go.Proofs.Ytadfmnlkfcigoaa
