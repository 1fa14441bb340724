import Derived.Test.YtaiknlnjahjeiaaSh
import Derived.Deep.Cut
import Derived.BigQuiet
namespace Go.Proofs.Ytaiknlnjahjeiaa
open Go.RowKit Go.PlainAid Go.MapKept
set_option linter.unusedVariables false
set_option linter.unusedSimpArgs false
/-- A step of the script. -/
structure SA where
  kd : Int
  who : Int
  nn : Int
  k : Int
  n : List UInt8
  A : Int
  B : Int
  e0 : Int
  e1 : Int
  e2 : Int
  ek : Int
  en : List UInt8
  eA : Int
  eB : Int
  er : Int
  va : Int
def SA.cs (x : SA) : Array Value := #[.int .i64 x.kd, .int .i64 x.who, .int .i64 x.nn, .int .i64 x.k, .string ⟨x.n.toArray⟩, .int .i64 x.A, .int .i64 x.B, .int .i64 x.e0, .int .i64 x.e1, .int .i64 x.e2, .int .i64 x.ek, .string ⟨x.en.toArray⟩, .int .i64 x.eA, .int .i64 x.eB, .int .i64 x.er, .int .i64 x.va]
def SA.row (x : SA) : List Value := [.int .i64 x.kd, .int .i64 x.who, .int .i64 x.nn, .int .i64 x.k, .string ⟨x.n.toArray⟩, .int .i64 x.A, .int .i64 x.B, .int .i64 x.e0, .int .i64 x.e1, .int .i64 x.e2, .int .i64 x.ek, .string ⟨x.en.toArray⟩, .int .i64 x.eA, .int .i64 x.eB, .int .i64 x.er, .int .i64 x.va]
structure TOk (K : Nat) (ts : List TD) : Prop where
  ln : ts.length ≤ K
  ks : ∀ t ∈ ts, t.ks.length ≤ K
theorem TOk.mono {K K' : Nat} {ts : List TD} (h : TOk K ts) (hk : K ≤ K') : TOk K' ts := ⟨Nat.le_trans h.ln hk, fun t ht => Nat.le_trans (h.ks t ht) hk⟩
/-- What a call of the pair comes to. -/
def PdPost (L0 kb K : Nat) (p : PR) (S : List RC) (R : List (Ent L0)) (w : World) (e : Ending) (w' : World) : Prop :=
  ∃ p' S' bv' ts', e = .returned (.bool true) ∧ Held (stE L0 kb p' S' bv' ts' R) w' ∧ p'.Ok (K + 1) S' ∧ p'.pb = p.pb ∧ (∀ c ∈ S, c ∈ S') ∧ TOk (K + 1) ts' ∧ Below L0 w w'
section
variable {L0 kb K : Nat} {p : PR} {S : List RC} {bv : Value} {ts : List TD} {R : List (Ent L0)} {w w' : World}
theorem st_more (h : Held (stE L0 kb p S bv ts R) w) (hb : Below w.heap.size w w') : Held (stE L0 kb p S bv ts R) w' := h.more hb
theorem below_all (hb : Below w.heap.size w w') (hL : L0 ≤ w.heap.size) : Below L0 w w' := hb.mono hL
theorem st_rdo (h : Held (stE L0 kb p S bv ts R) w) (hL : L0 ≤ w.heap.size) (hall : ∀ W, Held (stE L0 kb p S bv ts R) W → RAll L0 K p.M W) (hsub : ∀ c ∈ p.M, c ∈ S) (hK : K ≤ 90000) (k A B q : Int) (n : List UInt8) (hn : n.length ≤ 140737488355328) :
    Calls Try.prog 36 #[.pointer (some ⟨p.rb, 0, none⟩), .agg #[.int .i64 k, .string ⟨n.toArray⟩, .int .i64 A, .int .i64 B], .int .i64 q] w fun e w' => ∃ a er M' v', e = .returned (.tuple #[.int .i64 a, .int .i64 er]) ∧ RRes k A B q n p.M a er M' ∧ Held (stE L0 kb { p with M := M', v := v' } (S ++ M') bv ts R) w' ∧ Below L0 w w' := by
  refine (rdo_any k A B q n w (st_rm h).1 hL (hall w h) hK hn).mono ?_
  rintro e w' ⟨a, er, M', rfl, hres, hdn, hrd, hfs⟩
  obtain ⟨v', hm, hv⟩ := hdn.map
  obtain ⟨h1, h2⟩ := st_rset h hL hm hv hdn.chg hrd hsub hfs
  exact ⟨a, er, M', v', rfl, hres, h1, h2⟩
theorem st_ral (h : Held (stE L0 kb p S bv ts R) w) (hL : L0 ≤ w.heap.size) (hall : ∀ W, Held (stE L0 kb p S bv ts R) W → RAll L0 K p.M W) (hsub : ∀ c ∈ p.M, c ∈ S) (hK : K ≤ 90000) (e0 e1 e2 k A B fe va : Int) (n : List UInt8) (hn : n.length ≤ 140737488355328) :
    Calls Try.prog 37 #[.pointer (some ⟨p.rb, 0, none⟩), .agg #[.int .i64 e0, .int .i64 e1, .int .i64 e2, .int .i64 k, .string ⟨n.toArray⟩, .int .i64 A, .int .i64 B, .int .i64 fe, .int .i64 va]] w fun e w' => ∃ a er M' M2 v', RRes k A B va n p.M a er M' ∧ e = .returned (.bool (alR a er fe va)) ∧ M2 = (bif alR a er fe va then M' else p.M) ∧ Held (stE L0 kb { p with M := M2, v := v' } (S ++ M2) bv ts R) w' ∧ Below L0 w w' := by
  refine (rallows_any e0 e1 e2 k A B fe va n w (st_rm h).1 hL (hall w h) hK hn).mono ?_
  rintro e w' ⟨a, er, M', M2, hres, rfl, hM2, hdn, hrd, hfs⟩
  obtain ⟨v', hm, hv⟩ := hdn.map
  obtain ⟨h1, h2⟩ := st_rset h hL hm hv hdn.chg hrd hsub hfs
  exact ⟨a, er, M', M2, v', hres, rfl, hM2, h1, h2⟩
end
set_option maxRecDepth 100000 in
set_option maxHeartbeats 3200000 in
theorem peeks_any {L0 kb K : Nat} {p : PR} {S : List RC} {bv : Value} {ts : List TD} {R : List (Ent L0)} (n : List UInt8) (w : World) (h : Held (stE L0 kb p S bv ts R) w) (hL : L0 ≤ w.heap.size) (hk : p.Ok K S) (hK : K ≤ 90000) :
    Calls Try.prog 38 #[.pointer (some ⟨p.pb, 0, none⟩), .string ⟨n.toArray⟩] w fun e w' => e = .returned (.bool true) ∧ Below w.heap.size w w' := by
  have hB := (st_box h).1
  have b0 : w.cell? ⟨p.pb, 0, none⟩ = some (.pointer (some ⟨p.ab, 0, none⟩)) := hB.cell 0
  have HP : Hid _ := peek_any n w (st_am h).1
  have HRP : Hid (∀ W, Below w.heap.size w W → _) := fun W hW => rpeek_any n W ((st_rm h).1.more hW) ((st_oks h hk).more hW) (show K ≤ 100000 by omega)
  have HE : Hid (rpk n p.M = (((ctOf n p.L).val, (ctOf n p.L).held, (ctOf n p.L).lim), isOf n p.L)) := hk.ag.peek n
  have HBX : Hid (Blk w p.pb (p.cs kb) 76) := hB
  rw [HE.out] at HRP
  generalize (ctOf n p.L).val = t1 at *
  generalize (ctOf n p.L).held = t2 at *
  generalize (ctOf n p.L).lim = t3 at *
  generalize isOf n p.L = t4 at *
  clear h hk hB HE
  go_enter Try.func38, Try.ntmps38
  go_wp2_with fail
  refine Calls.mono HP.out ?_
  rintro e9 w1 ⟨rfl, hb1⟩
  have hB1 := HBX.out.below hb1 HBX.out.lt
  have b1 : w1.cell? ⟨p.pb, 1, none⟩ = some (.pointer (some ⟨p.rb, 0, none⟩)) := hB1.cell 1
  have HB1 : Hid (Below w.heap.size w w1) := hb1
  clear hb1 hB1 b0
  go_wp2_with fail
  refine Calls.mono (HRP.out w1 HB1.out) ?_
  rintro e9 w2 ⟨rfl, hb2⟩
  have HB2 : Hid (Below w.heap.size w w2) := HB1.out.trans (hb2.mono HB1.out.size)
  have q1 : (t1 == t1) = true := by simp
  have q2 : (t2 == t2) = true := by simp
  have q3 : (t3 == t3) = true := by simp
  have q4 : (t4 == t4) = true := by simp
  clear hb2 b1
  go_wp2_with fail
  go_ret
  exact ⟨by first | rfl | simp, HB2.out⟩
theorem Held_dropR {L0 kb : Nat} {p : PR} {S : List RC} {bv : Value} {ts : List TD} {R : List (Ent L0)} {e : Ent L0} {w : World} (h : Held (stE L0 kb p S bv ts (e :: R)) w) : Held (stE L0 kb p S bv ts R) w := by
  have e2 : stE L0 kb p S bv ts (e :: R) = (boxE L0 p.pb (p.cs kb) 76 :: amE L0 p.ab p.mb p.L :: rmE L0 p.rb p.v p.M :: lsE L0 p :: roE L0 S :: boxE L0 kb #[bv] 87 :: rowE L0 100 3 bv ts.length (flatT ts) :: ts.flatMap (TD.ents L0)) ++ (e :: R) := by simp [stE]
  rw [e2] at h
  have h2 := (h.perm List.perm_middle).drop
  have e3 : stE L0 kb p S bv ts R = (boxE L0 p.pb (p.cs kb) 76 :: amE L0 p.ab p.mb p.L :: rmE L0 p.rb p.v p.M :: lsE L0 p :: roE L0 S :: boxE L0 kb #[bv] 87 :: rowE L0 100 3 bv ts.length (flatT ts) :: ts.flatMap (TD.ents L0)) ++ R := by simp [stE]
  rw [e3]
  exact h2
theorem st_sb {L0 kb sb : Nat} {p : PR} {S : List RC} {bv : Value} {ts : List TD} {R : List (Ent L0)} {C : Array Value} {w : World} (h : Held (stE L0 kb p S bv ts (boxE L0 sb C 78 :: R)) w) : Blk w p.pb (p.cs kb) 76 ∧ Blk w sb C 78 := ⟨(st_box h).1, (st_R h (e := boxE L0 sb C 78) (List.mem_cons_self ..)).1⟩
set_option maxRecDepth 100000 in
set_option maxHeartbeats 6400000 in
theorem played_1 {L0 kb K : Nat} {p : PR} {S : List RC} {bv : Value} {ts : List TD} {R : List (Ent L0)} (x : SA) (w : World) (h : Held (stE L0 kb p S bv ts R) w) (hL : L0 ≤ w.heap.size) (hk : p.Ok K S) (ht : TOk K ts) (hK : K ≤ 90000) (hkd : x.kd = 1) (hn : x.n.length ≤ 140737488355328) :
    Calls Try.prog 27 #[.pointer (some ⟨p.pb, 0, none⟩), .agg #[.int .i64 x.kd, .int .i64 x.who, .int .i64 x.nn, .int .i64 x.k, .string ⟨x.n.toArray⟩, .int .i64 x.A, .int .i64 x.B, .int .i64 x.e0, .int .i64 x.e1, .int .i64 x.e2, .int .i64 x.ek, .string ⟨x.en.toArray⟩, .int .i64 x.eA, .int .i64 x.eB, .int .i64 x.er, .int .i64 x.va]] w (PdPost L0 kb K p S R w) := by
  obtain ⟨sb, hsb⟩ : ∃ b, b = w.heap.size := ⟨_, rfl⟩
  obtain ⟨X, hX⟩ : ∃ X, X = w.alloc (.cells #[.int .i64 x.kd, .int .i64 x.who, .int .i64 x.nn, .int .i64 x.k, .string ⟨x.n.toArray⟩, .int .i64 x.A, .int .i64 x.B, .int .i64 x.e0, .int .i64 x.e1, .int .i64 x.e2, .int .i64 x.ek, .string ⟨x.en.toArray⟩, .int .i64 x.eA, .int .i64 x.eB, .int .i64 x.er, .int .i64 x.va] 78) := ⟨_, rfl⟩
  have hbX : Below w.heap.size w X := by rw [hX]; exact (Below.refl _ _).alloc (Nat.le_refl _) _
  have hBS : Blk X sb #[.int .i64 x.kd, .int .i64 x.who, .int .i64 x.nn, .int .i64 x.k, .string ⟨x.n.toArray⟩, .int .i64 x.A, .int .i64 x.B, .int .i64 x.e0, .int .i64 x.e1, .int .i64 x.e2, .int .i64 x.ek, .string ⟨x.en.toArray⟩, .int .i64 x.eA, .int .i64 x.eB, .int .i64 x.er, .int .i64 x.va] 78 := by rw [hX, hsb]; exact heap_alloc_new w _
  have HBX : Hid (Below L0 w X) := hbX.mono hL
  have HLX : Hid (L0 ≤ X.heap.size) := show L0 ≤ X.heap.size from Nat.le_trans hL hbX.size
  have hsl : L0 ≤ sb := by omega
  have HX : Hid (Held (stE L0 kb p S bv ts (boxE L0 sb #[.int .i64 x.kd, .int .i64 x.who, .int .i64 x.nn, .int .i64 x.k, .string ⟨x.n.toArray⟩, .int .i64 x.A, .int .i64 x.B, .int .i64 x.e0, .int .i64 x.e1, .int .i64 x.e2, .int .i64 x.ek, .string ⟨x.en.toArray⟩, .int .i64 x.eA, .int .i64 x.eB, .int .i64 x.er, .int .i64 x.va] 78 :: R)) X) := show Held (stE L0 kb p S bv ts (boxE L0 sb #[.int .i64 x.kd, .int .i64 x.who, .int .i64 x.nn, .int .i64 x.k, .string ⟨x.n.toArray⟩, .int .i64 x.A, .int .i64 x.B, .int .i64 x.e0, .int .i64 x.e1, .int .i64 x.e2, .int .i64 x.ek, .string ⟨x.en.toArray⟩, .int .i64 x.eA, .int .i64 x.eB, .int .i64 x.er, .int .i64 x.va] 78 :: R)) X from by
    have h1 := Held.fresh (e := boxE L0 sb #[.int .i64 x.kd, .int .i64 x.who, .int .i64 x.nn, .int .i64 x.k, .string ⟨x.n.toArray⟩, .int .i64 x.A, .int .i64 x.B, .int .i64 x.e0, .int .i64 x.e1, .int .i64 x.e2, .int .i64 x.ek, .string ⟨x.en.toArray⟩, .int .i64 x.eA, .int .i64 x.eB, .int .i64 x.er, .int .i64 x.va] 78) h hbX ⟨hBS, hsl⟩ (fun k hk => by have : k = sb := hk; omega)
    have h2 : (boxE L0 sb #[.int .i64 x.kd, .int .i64 x.who, .int .i64 x.nn, .int .i64 x.k, .string ⟨x.n.toArray⟩, .int .i64 x.A, .int .i64 x.B, .int .i64 x.e0, .int .i64 x.e1, .int .i64 x.e2, .int .i64 x.ek, .string ⟨x.en.toArray⟩, .int .i64 x.eA, .int .i64 x.eB, .int .i64 x.er, .int .i64 x.va] 78 :: stE L0 kb p S bv ts R).Perm (stE L0 kb p S bv ts (boxE L0 sb #[.int .i64 x.kd, .int .i64 x.who, .int .i64 x.nn, .int .i64 x.k, .string ⟨x.n.toArray⟩, .int .i64 x.A, .int .i64 x.B, .int .i64 x.e0, .int .i64 x.e1, .int .i64 x.e2, .int .i64 x.ek, .string ⟨x.en.toArray⟩, .int .i64 x.eA, .int .i64 x.eB, .int .i64 x.er, .int .i64 x.va] 78 :: R)) := by
      have : stE L0 kb p S bv ts R = (boxE L0 p.pb (p.cs kb) 76 :: amE L0 p.ab p.mb p.L :: rmE L0 p.rb p.v p.M :: lsE L0 p :: roE L0 S :: boxE L0 kb #[bv] 87 :: rowE L0 100 3 bv ts.length (flatT ts) :: ts.flatMap (TD.ents L0)) ++ R := by simp [stE]
      rw [this]
      have e2 : stE L0 kb p S bv ts (boxE L0 sb #[.int .i64 x.kd, .int .i64 x.who, .int .i64 x.nn, .int .i64 x.k, .string ⟨x.n.toArray⟩, .int .i64 x.A, .int .i64 x.B, .int .i64 x.e0, .int .i64 x.e1, .int .i64 x.e2, .int .i64 x.ek, .string ⟨x.en.toArray⟩, .int .i64 x.eA, .int .i64 x.eB, .int .i64 x.er, .int .i64 x.va] 78 :: R) = (boxE L0 p.pb (p.cs kb) 76 :: amE L0 p.ab p.mb p.L :: rmE L0 p.rb p.v p.M :: lsE L0 p :: roE L0 S :: boxE L0 kb #[bv] 87 :: rowE L0 100 3 bv ts.length (flatT ts) :: ts.flatMap (TD.ents L0)) ++ (boxE L0 sb #[.int .i64 x.kd, .int .i64 x.who, .int .i64 x.nn, .int .i64 x.k, .string ⟨x.n.toArray⟩, .int .i64 x.A, .int .i64 x.B, .int .i64 x.e0, .int .i64 x.e1, .int .i64 x.e2, .int .i64 x.ek, .string ⟨x.en.toArray⟩, .int .i64 x.eA, .int .i64 x.eB, .int .i64 x.er, .int .i64 x.va] 78 :: R) := by simp [stE]
      rw [e2]
      exact List.perm_middle.symm
    exact h1.perm h2
  have HOK : Hid (p.Ok K S) := hk
  have HT : Hid (TOk K ts) := ht
  have c0 : X.cell? ⟨sb, 0, none⟩ = some (.int .i64 x.kd) := hBS.cell 0
  have HBS : Hid (Blk X sb #[.int .i64 x.kd, .int .i64 x.who, .int .i64 x.nn, .int .i64 x.k, .string ⟨x.n.toArray⟩, .int .i64 x.A, .int .i64 x.B, .int .i64 x.e0, .int .i64 x.e1, .int .i64 x.e2, .int .i64 x.ek, .string ⟨x.en.toArray⟩, .int .i64 x.eA, .int .i64 x.eB, .int .i64 x.er, .int .i64 x.va] 78) := hBS
  clear h hk hbX hBS hsl ht
  rw [hkd] at c0
  clear hkd
  obtain ⟨RR, hRR⟩ : ∃ y, y = mapO x.k x.A x.B x.nn x.n p.L := ⟨_, rfl⟩
  have HRR : Hid (RR = mapO x.k x.A x.B x.nn x.n p.L) := hRR
  have HDO : Hid (∀ W, Below X.heap.size X W → Calls Try.prog 12 #[.pointer (some ⟨p.ab, 0, none⟩), .agg #[.int .i64 x.k, .string ⟨x.n.toArray⟩, .int .i64 x.A, .int .i64 x.B], .int .i64 x.nn] W fun e w' => ∃ hb', e = .returned (.tuple #[.int .i64 RR.1.1, .int .i64 RR.1.2]) ∧ Held (stE L0 kb { p with L := doL RR x.n hb' p.L } S bv ts (boxE L0 sb #[.int .i64 x.kd, .int .i64 x.who, .int .i64 x.nn, .int .i64 x.k, .string ⟨x.n.toArray⟩, .int .i64 x.A, .int .i64 x.B, .int .i64 x.e0, .int .i64 x.e1, .int .i64 x.e2, .int .i64 x.ek, .string ⟨x.en.toArray⟩, .int .i64 x.eA, .int .i64 x.eB, .int .i64 x.er, .int .i64 x.va] 78 :: R)) w' ∧ Below L0 W w') := fun W hW => by rw [hRR]; exact st_do (HX.out.more hW) (Nat.le_trans HLX.out hW.size) x.k x.A x.B x.nn x.n hn
  have HCX : Hid ((fun wq => Blk wq p.pb (p.cs kb) 76 ∧ Blk wq sb #[.int .i64 x.kd, .int .i64 x.who, .int .i64 x.nn, .int .i64 x.k, .string ⟨x.n.toArray⟩, .int .i64 x.A, .int .i64 x.B, .int .i64 x.e0, .int .i64 x.e1, .int .i64 x.e2, .int .i64 x.ek, .string ⟨x.en.toArray⟩, .int .i64 x.eA, .int .i64 x.eB, .int .i64 x.er, .int .i64 x.va] 78) ({ X with drawn := X.drawn + 1 } : World)) := show (fun wq => Blk wq p.pb (p.cs kb) 76 ∧ Blk wq sb #[.int .i64 x.kd, .int .i64 x.who, .int .i64 x.nn, .int .i64 x.k, .string ⟨x.n.toArray⟩, .int .i64 x.A, .int .i64 x.B, .int .i64 x.e0, .int .i64 x.e1, .int .i64 x.e2, .int .i64 x.ek, .string ⟨x.en.toArray⟩, .int .i64 x.eA, .int .i64 x.eB, .int .i64 x.er, .int .i64 x.va] 78) ({ X with drawn := X.drawn + 1 } : World) from ⟨(st_sb HX.out).1, (st_sb HX.out).2⟩
  clear hRR
  go_enter Try.func27, Try.ntmps27
  go_upto_region 1 with fail
  rw [← hX, ← hsb]
  clear hX hsb
  go_wp2_with fail
  first | rename_i KK hKK | skip
  try rw [show ∀ a : Act, a.put none undef = a from fun _ => rfl]
  refine wp_region_mix (fun wq => Blk wq p.pb (p.cs kb) 76 ∧ Blk wq sb #[.int .i64 x.kd, .int .i64 x.who, .int .i64 x.nn, .int .i64 x.k, .string ⟨x.n.toArray⟩, .int .i64 x.A, .int .i64 x.B, .int .i64 x.e0, .int .i64 x.e1, .int .i64 x.e2, .int .i64 x.ek, .string ⟨x.en.toArray⟩, .int .i64 x.eA, .int .i64 x.eB, .int .i64 x.er, .int .i64 x.va] 78) (fun i => i == 8 || i == 99) 99 (by kernel_rfl) rfl (by kernel_rfl) (by kernel_rfl) (by kernel_rfl) ?_
  refine withFrP (N := 75) rfl ?_
  intro f0 F0 hff
  have ee0 : f0 0 = Value.pointer (some ⟨p.pb, 0, none⟩) := hff 0
  have ee3 : f0 3 = Value.pointer (some ⟨sb, 0, none⟩) := hff 3
  clear hff
  have HCC : (fun wq => Blk wq p.pb (p.cs kb) 76 ∧ Blk wq sb #[.int .i64 x.kd, .int .i64 x.who, .int .i64 x.nn, .int .i64 x.k, .string ⟨x.n.toArray⟩, .int .i64 x.A, .int .i64 x.B, .int .i64 x.e0, .int .i64 x.e1, .int .i64 x.e2, .int .i64 x.ek, .string ⟨x.en.toArray⟩, .int .i64 x.eA, .int .i64 x.eB, .int .i64 x.er, .int .i64 x.va] 78) (({ X with drawn := X.drawn + 1 } : World)) := HCX.out
  refine lyp F0 rfl HCC rfl (by omega) (wanted_none rfl) (v := Value.pointer (some ⟨p.pb, 0, none⟩)) (fun wr hwr => by simp only [execOp, (F0.eval 0 (by omega)).trans (show _ = Value.pointer (some ⟨p.pb, 0, none⟩) from by simp [upd, ee0, ee3])]; first | rfl | simp [go_sem]) fun F1 => ?_
  refine lyp F1 rfl HCC rfl (by omega) (wanted_none rfl) (v := Value.pointer (some ⟨p.pb, 0, none⟩)) (fun wr hwr => by simp only [execOp, (F1.eval 15 (by omega)).trans (show _ = Value.pointer (some ⟨p.pb, 0, none⟩) from by simp [upd, ee0, ee3])]; simp [go_sem]) fun F2 => ?_
  refine lyp F2 rfl HCC rfl (by omega) (wanted_none rfl) (v := Value.pointer (some ⟨p.pb, 0, none⟩)) (fun wr hwr => by simp only [execOp, (F2.eval 16 (by omega)).trans (show _ = Value.pointer (some ⟨p.pb, 0, none⟩) from by simp [upd, ee0, ee3])]; simp [go_sem]) fun F3 => ?_
  refine lyp F3 rfl HCC rfl (by omega) (wanted_none rfl) (v := Value.pointer (some ⟨p.ab, 0, none⟩)) (fun wr hwr => by simp only [execOp, (F3.eval 17 (by omega)).trans (show _ = Value.pointer (some ⟨p.pb, 0, none⟩) from by simp [upd, ee0, ee3])]; simp [go_sem, show wr.cell? ⟨p.pb, 0, none⟩ = some (.pointer (some ⟨p.ab, 0, none⟩)) from hwr.1.cell 0]) fun F4 => ?_
  refine lyp F4 rfl HCC rfl (by omega) (wanted_none rfl) (v := Value.pointer (some ⟨sb, 3, none⟩)) (fun wr hwr => by simp only [execOp, (F4.eval 3 (by omega)).trans (show _ = Value.pointer (some ⟨sb, 0, none⟩) from by simp [upd, ee0, ee3])]; simp [go_sem]) fun F5 => ?_
  refine lyp F5 rfl HCC rfl (by omega) (wanted_none rfl) (v := Value.agg #[.int .i64 x.k, .string ⟨x.n.toArray⟩, .int .i64 x.A, .int .i64 x.B]) (fun wr hwr => by simp only [execOp, (F5.eval 19 (by omega)).trans (show _ = Value.pointer (some ⟨sb, 3, none⟩) from by simp [upd, ee0, ee3])]; simp [go_sem, show wr.cell? ⟨sb, 3, none⟩ = some (.int .i64 x.k) from hwr.2.cell 3, show wr.cell? ⟨sb, 4, none⟩ = some (.string ⟨x.n.toArray⟩) from hwr.2.cell 4, show wr.cell? ⟨sb, 5, none⟩ = some (.int .i64 x.A) from hwr.2.cell 5, show wr.cell? ⟨sb, 6, none⟩ = some (.int .i64 x.B) from hwr.2.cell 6]) fun F6 => ?_
  refine lyp F6 rfl HCC rfl (by omega) (wanted_none rfl) (v := Value.pointer (some ⟨sb, 2, none⟩)) (fun wr hwr => by simp only [execOp, (F6.eval 3 (by omega)).trans (show _ = Value.pointer (some ⟨sb, 0, none⟩) from by simp [upd, ee0, ee3])]; simp [go_sem]) fun F7 => ?_
  refine lyp F7 rfl HCC rfl (by omega) (wanted_none rfl) (v := Value.int .i64 x.nn) (fun wr hwr => by simp only [execOp, (F7.eval 21 (by omega)).trans (show _ = Value.pointer (some ⟨sb, 2, none⟩) from by simp [upd, ee0, ee3])]; simp [go_sem, show wr.cell? ⟨sb, 2, none⟩ = some (.int .i64 x.nn) from hwr.2.cell 2]) fun F8 => ?_
  refine lcp F8 rfl HCC rfl (by omega) (wanted_none rfl) (g := 12) (args := #[Value.pointer (some ⟨p.ab, 0, none⟩), Value.agg #[.int .i64 x.k, .string ⟨x.n.toArray⟩, .int .i64 x.A, .int .i64 x.B], Value.int .i64 x.nn]) (by simp only [execOp, resolve, invoke, List.map_toArray, List.map_cons, List.map_nil, (F8.eval 18 (by omega)).trans (show _ = Value.pointer (some ⟨p.ab, 0, none⟩) from by simp [upd, ee0, ee3]), (F8.eval 20 (by omega)).trans (show _ = Value.agg #[.int .i64 x.k, .string ⟨x.n.toArray⟩, .int .i64 x.A, .int .i64 x.B] from by simp [upd, ee0, ee3]), (F8.eval 22 (by omega)).trans (show _ = Value.int .i64 x.nn from by simp [upd, ee0, ee3])]; simp [go_sem, Act.eval]) (HDO.out ({ X with drawn := X.drawn + 1 } : World) (Below.drew (Below.refl _ _))) ?_
  rintro e9 w1 ⟨hb', rfl, hH1, hb1⟩
  have HCN : Hid ((fun wq => Blk wq p.pb (p.cs kb) 76 ∧ Blk wq sb #[.int .i64 x.kd, .int .i64 x.who, .int .i64 x.nn, .int .i64 x.k, .string ⟨x.n.toArray⟩, .int .i64 x.A, .int .i64 x.B, .int .i64 x.e0, .int .i64 x.e1, .int .i64 x.e2, .int .i64 x.ek, .string ⟨x.en.toArray⟩, .int .i64 x.eA, .int .i64 x.eB, .int .i64 x.er, .int .i64 x.va] 78) w1) := show (fun wq => Blk wq p.pb (p.cs kb) 76 ∧ Blk wq sb #[.int .i64 x.kd, .int .i64 x.who, .int .i64 x.nn, .int .i64 x.k, .string ⟨x.n.toArray⟩, .int .i64 x.A, .int .i64 x.B, .int .i64 x.e0, .int .i64 x.e1, .int .i64 x.e2, .int .i64 x.ek, .string ⟨x.en.toArray⟩, .int .i64 x.eA, .int .i64 x.eB, .int .i64 x.er, .int .i64 x.va] 78) w1 from ⟨(st_sb hH1).1, (st_sb hH1).2⟩
  refine ⟨_, rfl, fun F9 => ?_⟩
  have HC2 : (fun wq => Blk wq p.pb (p.cs kb) 76 ∧ Blk wq sb #[.int .i64 x.kd, .int .i64 x.who, .int .i64 x.nn, .int .i64 x.k, .string ⟨x.n.toArray⟩, .int .i64 x.A, .int .i64 x.B, .int .i64 x.e0, .int .i64 x.e1, .int .i64 x.e2, .int .i64 x.ek, .string ⟨x.en.toArray⟩, .int .i64 x.eA, .int .i64 x.eB, .int .i64 x.er, .int .i64 x.va] 78) w1 := HCN.out
  refine lyp F9 rfl HC2 rfl (by omega) (wanted_none rfl) (v := Value.tuple #[.int .i64 RR.1.1, .int .i64 RR.1.2]) (fun wr hwr => by simp only [execOp, (F9.eval 23 (by omega)).trans (show _ = Value.tuple #[.int .i64 RR.1.1, .int .i64 RR.1.2] from by simp [upd, ee0, ee3])]; first | rfl | simp [go_sem]) fun F10 => ?_
  refine lyp F10 rfl HC2 rfl (by omega) (wanted_none rfl) (v := Value.int .i64 RR.1.1) (fun wr hwr => by simp only [execOp, (F10.eval 14 (by omega)).trans (show _ = Value.tuple #[.int .i64 RR.1.1, .int .i64 RR.1.2] from by simp [upd, ee0, ee3])]; simp [go_sem]) fun F11 => ?_
  refine lyp F11 rfl HC2 rfl (by omega) (wanted_none rfl) (v := Value.int .i64 RR.1.2) (fun wr hwr => by simp only [execOp, (F11.eval 14 (by omega)).trans (show _ = Value.tuple #[.int .i64 RR.1.1, .int .i64 RR.1.2] from by simp [upd, ee0, ee3])]; simp [go_sem]) fun F12 => ?_
  refine lyp F12 rfl HC2 rfl (by omega) (wanted_none rfl) (v := Value.int .i64 RR.1.1) (fun wr hwr => by simp only [execOp, (F12.eval 24 (by omega)).trans (show _ = Value.int .i64 RR.1.1 from by simp [upd, ee0, ee3])]; first | rfl | simp [go_sem]) fun F13 => ?_
  refine lyp F13 rfl HC2 rfl (by omega) (wanted_none rfl) (v := Value.int .i64 RR.1.2) (fun wr hwr => by simp only [execOp, (F13.eval 25 (by omega)).trans (show _ = Value.int .i64 RR.1.2 from by simp [upd, ee0, ee3])]; first | rfl | simp [go_sem]) fun F14 => ?_
  refine ⟨fun _ => HC2, ?_⟩
  first | refine hKK _ _ ?_ | skip
  clear F0 F1 F2 F3 F4 F5 F6 F7 F8 F9 F10 F11 F12 F13 F14 ee0 ee3 HCC HC2
  simp only [Act.put, List.setIfInBounds_toArray, List.set_cons_succ, List.set_cons_zero]
  obtain ⟨L1, hL1⟩ : ∃ y, y = doL RR x.n hb' p.L := ⟨_, rfl⟩
  rw [← hL1] at hH1
  have H1 : Hid (Held (stE L0 kb { p with L := L1 } S bv ts (boxE L0 sb #[.int .i64 x.kd, .int .i64 x.who, .int .i64 x.nn, .int .i64 x.k, .string ⟨x.n.toArray⟩, .int .i64 x.A, .int .i64 x.B, .int .i64 x.e0, .int .i64 x.e1, .int .i64 x.e2, .int .i64 x.ek, .string ⟨x.en.toArray⟩, .int .i64 x.eA, .int .i64 x.eB, .int .i64 x.er, .int .i64 x.va] 78 :: R)) w1) := hH1
  have HL1 : Hid (L1 = doL RR x.n hb' p.L) := hL1
  have HB1 : Hid (Below L0 w w1) := HBX.out.trans (hb1.trans (Below.refl _ _) |> fun h => (show Below L0 X w1 from ⟨h.os, h.tape, h.output, h.size, h.block⟩))
  have HLL1 : Hid (L0 ≤ w1.heap.size) := show L0 ≤ w1.heap.size from Nat.le_trans hL HB1.out.size
  have HALL : Hid (∀ W, Held (stE L0 kb { p with L := L1 } S bv ts (boxE L0 sb #[.int .i64 x.kd, .int .i64 x.who, .int .i64 x.nn, .int .i64 x.k, .string ⟨x.n.toArray⟩, .int .i64 x.A, .int .i64 x.B, .int .i64 x.e0, .int .i64 x.e1, .int .i64 x.e2, .int .i64 x.ek, .string ⟨x.en.toArray⟩, .int .i64 x.eA, .int .i64 x.eB, .int .i64 x.er, .int .i64 x.va] 78 :: R)) W → RAll L0 K p.M W) := fun W hW => ⟨fun c hc => st_ro hW c (HOK.out.sub c hc), (st_oks HX.out HOK.out).ok, (st_oks HX.out HOK.out).len, (st_oks HX.out HOK.out).kd⟩
  have HRD : Hid (∀ W, Below w1.heap.size w1 W → Calls Try.prog 36 #[.pointer (some ⟨p.rb, 0, none⟩), .agg #[.int .i64 x.k, .string ⟨x.n.toArray⟩, .int .i64 x.A, .int .i64 x.B], .int .i64 x.nn] W fun e w' => ∃ a er M' v', e = .returned (.tuple #[.int .i64 a, .int .i64 er]) ∧ RRes x.k x.A x.B x.nn x.n p.M a er M' ∧ Held (stE L0 kb { p with L := L1, M := M', v := v' } (S ++ M') bv ts (boxE L0 sb #[.int .i64 x.kd, .int .i64 x.who, .int .i64 x.nn, .int .i64 x.k, .string ⟨x.n.toArray⟩, .int .i64 x.A, .int .i64 x.B, .int .i64 x.e0, .int .i64 x.e1, .int .i64 x.e2, .int .i64 x.ek, .string ⟨x.en.toArray⟩, .int .i64 x.eA, .int .i64 x.eB, .int .i64 x.er, .int .i64 x.va] 78 :: R)) w' ∧ Below L0 W w') := fun W hW => st_rdo (H1.out.more hW) (Nat.le_trans HLL1.out hW.size) HALL.out HOK.out.sub hK x.k x.A x.B x.nn x.n hn
  have HCX2 : Hid ((fun wq => Blk wq p.pb (p.cs kb) 76 ∧ Blk wq sb #[.int .i64 x.kd, .int .i64 x.who, .int .i64 x.nn, .int .i64 x.k, .string ⟨x.n.toArray⟩, .int .i64 x.A, .int .i64 x.B, .int .i64 x.e0, .int .i64 x.e1, .int .i64 x.e2, .int .i64 x.ek, .string ⟨x.en.toArray⟩, .int .i64 x.eA, .int .i64 x.eB, .int .i64 x.er, .int .i64 x.va] 78) ({ w1 with drawn := w1.drawn + 1 } : World)) := show (fun wq => Blk wq p.pb (p.cs kb) 76 ∧ Blk wq sb #[.int .i64 x.kd, .int .i64 x.who, .int .i64 x.nn, .int .i64 x.k, .string ⟨x.n.toArray⟩, .int .i64 x.A, .int .i64 x.B, .int .i64 x.e0, .int .i64 x.e1, .int .i64 x.e2, .int .i64 x.ek, .string ⟨x.en.toArray⟩, .int .i64 x.eA, .int .i64 x.eB, .int .i64 x.er, .int .i64 x.va] 78) ({ w1 with drawn := w1.drawn + 1 } : World) from HCN.out
  clear HCX hL1 hH1 hb1 HDO HCN
  have HCX := HCX2
  clear HCX2
  go_wp2_with fail
  first | rename_i KK hKK | skip
  try rw [show ∀ a : Act, a.put none undef = a from fun _ => rfl]
  refine wp_region_mix (fun wq => Blk wq p.pb (p.cs kb) 76 ∧ Blk wq sb #[.int .i64 x.kd, .int .i64 x.who, .int .i64 x.nn, .int .i64 x.k, .string ⟨x.n.toArray⟩, .int .i64 x.A, .int .i64 x.B, .int .i64 x.e0, .int .i64 x.e1, .int .i64 x.e2, .int .i64 x.ek, .string ⟨x.en.toArray⟩, .int .i64 x.eA, .int .i64 x.eB, .int .i64 x.er, .int .i64 x.va] 78) (fun i => i == 8 || i == 99) 99 (by kernel_rfl) rfl (by kernel_rfl) (by kernel_rfl) (by kernel_rfl) ?_
  refine withFrP (N := 75) rfl ?_
  intro f0 F0 hff
  have ee0 : f0 0 = Value.pointer (some ⟨p.pb, 0, none⟩) := hff 0
  have ee3 : f0 3 = Value.pointer (some ⟨sb, 0, none⟩) := hff 3
  have ee5 : f0 5 = Value.int .i64 RR.1.1 := hff 5
  have ee6 : f0 6 = Value.int .i64 RR.1.2 := hff 6
  clear hff
  have HCC : (fun wq => Blk wq p.pb (p.cs kb) 76 ∧ Blk wq sb #[.int .i64 x.kd, .int .i64 x.who, .int .i64 x.nn, .int .i64 x.k, .string ⟨x.n.toArray⟩, .int .i64 x.A, .int .i64 x.B, .int .i64 x.e0, .int .i64 x.e1, .int .i64 x.e2, .int .i64 x.ek, .string ⟨x.en.toArray⟩, .int .i64 x.eA, .int .i64 x.eB, .int .i64 x.er, .int .i64 x.va] 78) (({ w1 with drawn := w1.drawn + 1 } : World)) := HCX.out
  refine lyp F0 rfl HCC rfl (by omega) (wanted_none rfl) (v := Value.pointer (some ⟨p.pb, 0, none⟩)) (fun wr hwr => by simp only [execOp, (F0.eval 0 (by omega)).trans (show _ = Value.pointer (some ⟨p.pb, 0, none⟩) from by simp [upd, ee0, ee3, ee5, ee6])]; first | rfl | simp [go_sem]) fun F1 => ?_
  refine lyp F1 rfl HCC rfl (by omega) (wanted_none rfl) (v := Value.pointer (some ⟨p.pb, 0, none⟩)) (fun wr hwr => by simp only [execOp, (F1.eval 27 (by omega)).trans (show _ = Value.pointer (some ⟨p.pb, 0, none⟩) from by simp [upd, ee0, ee3, ee5, ee6])]; simp [go_sem]) fun F2 => ?_
  refine lyp F2 rfl HCC rfl (by omega) (wanted_none rfl) (v := Value.pointer (some ⟨p.pb, 1, none⟩)) (fun wr hwr => by simp only [execOp, (F2.eval 28 (by omega)).trans (show _ = Value.pointer (some ⟨p.pb, 0, none⟩) from by simp [upd, ee0, ee3, ee5, ee6])]; simp [go_sem]) fun F3 => ?_
  refine lyp F3 rfl HCC rfl (by omega) (wanted_none rfl) (v := Value.pointer (some ⟨p.rb, 0, none⟩)) (fun wr hwr => by simp only [execOp, (F3.eval 29 (by omega)).trans (show _ = Value.pointer (some ⟨p.pb, 1, none⟩) from by simp [upd, ee0, ee3, ee5, ee6])]; simp [go_sem, show wr.cell? ⟨p.pb, 1, none⟩ = some (.pointer (some ⟨p.rb, 0, none⟩)) from hwr.1.cell 1]) fun F4 => ?_
  refine lyp F4 rfl HCC rfl (by omega) (wanted_none rfl) (v := Value.pointer (some ⟨sb, 3, none⟩)) (fun wr hwr => by simp only [execOp, (F4.eval 3 (by omega)).trans (show _ = Value.pointer (some ⟨sb, 0, none⟩) from by simp [upd, ee0, ee3, ee5, ee6])]; simp [go_sem]) fun F5 => ?_
  refine lyp F5 rfl HCC rfl (by omega) (wanted_none rfl) (v := Value.agg #[.int .i64 x.k, .string ⟨x.n.toArray⟩, .int .i64 x.A, .int .i64 x.B]) (fun wr hwr => by simp only [execOp, (F5.eval 31 (by omega)).trans (show _ = Value.pointer (some ⟨sb, 3, none⟩) from by simp [upd, ee0, ee3, ee5, ee6])]; simp [go_sem, show wr.cell? ⟨sb, 3, none⟩ = some (.int .i64 x.k) from hwr.2.cell 3, show wr.cell? ⟨sb, 4, none⟩ = some (.string ⟨x.n.toArray⟩) from hwr.2.cell 4, show wr.cell? ⟨sb, 5, none⟩ = some (.int .i64 x.A) from hwr.2.cell 5, show wr.cell? ⟨sb, 6, none⟩ = some (.int .i64 x.B) from hwr.2.cell 6]) fun F6 => ?_
  refine lyp F6 rfl HCC rfl (by omega) (wanted_none rfl) (v := Value.pointer (some ⟨sb, 2, none⟩)) (fun wr hwr => by simp only [execOp, (F6.eval 3 (by omega)).trans (show _ = Value.pointer (some ⟨sb, 0, none⟩) from by simp [upd, ee0, ee3, ee5, ee6])]; simp [go_sem]) fun F7 => ?_
  refine lyp F7 rfl HCC rfl (by omega) (wanted_none rfl) (v := Value.int .i64 x.nn) (fun wr hwr => by simp only [execOp, (F7.eval 33 (by omega)).trans (show _ = Value.pointer (some ⟨sb, 2, none⟩) from by simp [upd, ee0, ee3, ee5, ee6])]; simp [go_sem, show wr.cell? ⟨sb, 2, none⟩ = some (.int .i64 x.nn) from hwr.2.cell 2]) fun F8 => ?_
  refine lcp F8 rfl HCC rfl (by omega) (wanted_none rfl) (g := 36) (args := #[Value.pointer (some ⟨p.rb, 0, none⟩), Value.agg #[.int .i64 x.k, .string ⟨x.n.toArray⟩, .int .i64 x.A, .int .i64 x.B], Value.int .i64 x.nn]) (by simp only [execOp, resolve, invoke, List.map_toArray, List.map_cons, List.map_nil, (F8.eval 30 (by omega)).trans (show _ = Value.pointer (some ⟨p.rb, 0, none⟩) from by simp [upd, ee0, ee3, ee5, ee6]), (F8.eval 32 (by omega)).trans (show _ = Value.agg #[.int .i64 x.k, .string ⟨x.n.toArray⟩, .int .i64 x.A, .int .i64 x.B] from by simp [upd, ee0, ee3, ee5, ee6]), (F8.eval 34 (by omega)).trans (show _ = Value.int .i64 x.nn from by simp [upd, ee0, ee3, ee5, ee6])]; simp [go_sem, Act.eval]) (HRD.out ({ w1 with drawn := w1.drawn + 1 } : World) (Below.drew (Below.refl _ _))) ?_
  rintro e9 w2 ⟨a, er, M', v', rfl, hres, hH2, hb2⟩
  obtain ⟨⟨ha, he⟩, hag⟩ := AgM.step HOK.out.ag (fun q hq => ⟨((st_am HX.out).1.ct q hq).1, ((st_am HX.out).1.ct q hq).2.1⟩) hres
  rw [← HRR.out] at ha he hag
  subst ha
  subst he
  have HCN : Hid ((fun wq => Blk wq p.pb (p.cs kb) 76 ∧ Blk wq sb #[.int .i64 x.kd, .int .i64 x.who, .int .i64 x.nn, .int .i64 x.k, .string ⟨x.n.toArray⟩, .int .i64 x.A, .int .i64 x.B, .int .i64 x.e0, .int .i64 x.e1, .int .i64 x.e2, .int .i64 x.ek, .string ⟨x.en.toArray⟩, .int .i64 x.eA, .int .i64 x.eB, .int .i64 x.er, .int .i64 x.va] 78) w2) := show (fun wq => Blk wq p.pb (p.cs kb) 76 ∧ Blk wq sb #[.int .i64 x.kd, .int .i64 x.who, .int .i64 x.nn, .int .i64 x.k, .string ⟨x.n.toArray⟩, .int .i64 x.A, .int .i64 x.B, .int .i64 x.e0, .int .i64 x.e1, .int .i64 x.e2, .int .i64 x.ek, .string ⟨x.en.toArray⟩, .int .i64 x.eA, .int .i64 x.eB, .int .i64 x.er, .int .i64 x.va] 78) w2 from ⟨(st_sb hH2).1, (st_sb hH2).2⟩
  refine ⟨_, rfl, fun F9 => ?_⟩
  have HC2 : (fun wq => Blk wq p.pb (p.cs kb) 76 ∧ Blk wq sb #[.int .i64 x.kd, .int .i64 x.who, .int .i64 x.nn, .int .i64 x.k, .string ⟨x.n.toArray⟩, .int .i64 x.A, .int .i64 x.B, .int .i64 x.e0, .int .i64 x.e1, .int .i64 x.e2, .int .i64 x.ek, .string ⟨x.en.toArray⟩, .int .i64 x.eA, .int .i64 x.eB, .int .i64 x.er, .int .i64 x.va] 78) w2 := HCN.out
  refine lyp F9 rfl HC2 rfl (by omega) (wanted_none rfl) (v := Value.tuple #[.int .i64 RR.1.1, .int .i64 RR.1.2]) (fun wr hwr => by simp only [execOp, (F9.eval 35 (by omega)).trans (show _ = Value.tuple #[.int .i64 RR.1.1, .int .i64 RR.1.2] from by simp [upd, ee0, ee3, ee5, ee6])]; first | rfl | simp [go_sem]) fun F10 => ?_
  refine lyp F10 rfl HC2 rfl (by omega) (wanted_none rfl) (v := Value.int .i64 RR.1.1) (fun wr hwr => by simp only [execOp, (F10.eval 26 (by omega)).trans (show _ = Value.tuple #[.int .i64 RR.1.1, .int .i64 RR.1.2] from by simp [upd, ee0, ee3, ee5, ee6])]; simp [go_sem]) fun F11 => ?_
  refine lyp F11 rfl HC2 rfl (by omega) (wanted_none rfl) (v := Value.int .i64 RR.1.2) (fun wr hwr => by simp only [execOp, (F11.eval 26 (by omega)).trans (show _ = Value.tuple #[.int .i64 RR.1.1, .int .i64 RR.1.2] from by simp [upd, ee0, ee3, ee5, ee6])]; simp [go_sem]) fun F12 => ?_
  refine lyp F12 rfl HC2 rfl (by omega) (wanted_none rfl) (v := Value.int .i64 RR.1.1) (fun wr hwr => by simp only [execOp, (F12.eval 36 (by omega)).trans (show _ = Value.int .i64 RR.1.1 from by simp [upd, ee0, ee3, ee5, ee6])]; first | rfl | simp [go_sem]) fun F13 => ?_
  refine lyp F13 rfl HC2 rfl (by omega) (wanted_none rfl) (v := Value.int .i64 RR.1.2) (fun wr hwr => by simp only [execOp, (F13.eval 37 (by omega)).trans (show _ = Value.int .i64 RR.1.2 from by simp [upd, ee0, ee3, ee5, ee6])]; first | rfl | simp [go_sem]) fun F14 => ?_
  refine ⟨fun _ => HC2, ?_⟩
  first | refine hKK _ _ ?_ | skip
  clear F0 F1 F2 F3 F4 F5 F6 F7 F8 F9 F10 F11 F12 F13 F14 ee0 ee3 ee5 ee6 HCC HC2
  simp only [Act.put, List.setIfInBounds_toArray, List.set_cons_succ, List.set_cons_zero]
  have HF : Hid (PdPost L0 kb K p S R w (.returned (.bool true)) w2) := ⟨{ p with L := L1, M := M', v := v' }, S ++ M', bv, ts, rfl, Held_dropR hH2, ⟨by rw [HL1.out]; exact hag hb', fun c hc => List.mem_append_right _ hc, Nat.le_succ_of_le HOK.out.ln, by simp only; rw [HL1.out]; have := doL_len RR x.n hb' p.L; have := HOK.out.ll; omega⟩, rfl, fun c hc => List.mem_append_left _ hc, HT.out.mono (Nat.le_succ _), HB1.out.trans (show Below L0 w1 w2 from ⟨hb2.os, hb2.tape, hb2.output, hb2.size, hb2.block⟩)⟩
  have q1 : (RR.1.1 == RR.1.1) = true := by simp
  have q2 : (RR.1.2 == RR.1.2) = true := by simp
  clear hres hH2 hb2 hag HCN HCX HRD
  go_wp2_with fail
  go_ret
  exact HF.out
set_option maxRecDepth 100000 in
set_option maxHeartbeats 6400000 in
theorem played_2 {L0 kb K : Nat} {p : PR} {S : List RC} {bv : Value} {ts : List TD} {R : List (Ent L0)} (x : SA) (w : World) (h : Held (stE L0 kb p S bv ts R) w) (hL : L0 ≤ w.heap.size) (hk : p.Ok K S) (ht : TOk K ts) (hK : K ≤ 90000) (hkd : x.kd = 2) (hn : x.en.length ≤ 140737488355328) :
    Calls Try.prog 27 #[.pointer (some ⟨p.pb, 0, none⟩), .agg #[.int .i64 x.kd, .int .i64 x.who, .int .i64 x.nn, .int .i64 x.k, .string ⟨x.n.toArray⟩, .int .i64 x.A, .int .i64 x.B, .int .i64 x.e0, .int .i64 x.e1, .int .i64 x.e2, .int .i64 x.ek, .string ⟨x.en.toArray⟩, .int .i64 x.eA, .int .i64 x.eB, .int .i64 x.er, .int .i64 x.va]] w (PdPost L0 kb K p S R w) := by
  obtain ⟨sb, hsb⟩ : ∃ b, b = w.heap.size := ⟨_, rfl⟩
  obtain ⟨X, hX⟩ : ∃ X, X = w.alloc (.cells #[.int .i64 x.kd, .int .i64 x.who, .int .i64 x.nn, .int .i64 x.k, .string ⟨x.n.toArray⟩, .int .i64 x.A, .int .i64 x.B, .int .i64 x.e0, .int .i64 x.e1, .int .i64 x.e2, .int .i64 x.ek, .string ⟨x.en.toArray⟩, .int .i64 x.eA, .int .i64 x.eB, .int .i64 x.er, .int .i64 x.va] 78) := ⟨_, rfl⟩
  have hbX : Below w.heap.size w X := by rw [hX]; exact (Below.refl _ _).alloc (Nat.le_refl _) _
  have hBS : Blk X sb #[.int .i64 x.kd, .int .i64 x.who, .int .i64 x.nn, .int .i64 x.k, .string ⟨x.n.toArray⟩, .int .i64 x.A, .int .i64 x.B, .int .i64 x.e0, .int .i64 x.e1, .int .i64 x.e2, .int .i64 x.ek, .string ⟨x.en.toArray⟩, .int .i64 x.eA, .int .i64 x.eB, .int .i64 x.er, .int .i64 x.va] 78 := by rw [hX, hsb]; exact heap_alloc_new w _
  have HBX : Hid (Below L0 w X) := hbX.mono hL
  have HLX : Hid (L0 ≤ X.heap.size) := show L0 ≤ X.heap.size from Nat.le_trans hL hbX.size
  have hsl : L0 ≤ sb := by omega
  have HX : Hid (Held (stE L0 kb p S bv ts (boxE L0 sb #[.int .i64 x.kd, .int .i64 x.who, .int .i64 x.nn, .int .i64 x.k, .string ⟨x.n.toArray⟩, .int .i64 x.A, .int .i64 x.B, .int .i64 x.e0, .int .i64 x.e1, .int .i64 x.e2, .int .i64 x.ek, .string ⟨x.en.toArray⟩, .int .i64 x.eA, .int .i64 x.eB, .int .i64 x.er, .int .i64 x.va] 78 :: R)) X) := show Held (stE L0 kb p S bv ts (boxE L0 sb #[.int .i64 x.kd, .int .i64 x.who, .int .i64 x.nn, .int .i64 x.k, .string ⟨x.n.toArray⟩, .int .i64 x.A, .int .i64 x.B, .int .i64 x.e0, .int .i64 x.e1, .int .i64 x.e2, .int .i64 x.ek, .string ⟨x.en.toArray⟩, .int .i64 x.eA, .int .i64 x.eB, .int .i64 x.er, .int .i64 x.va] 78 :: R)) X from by
    have h1 := Held.fresh (e := boxE L0 sb #[.int .i64 x.kd, .int .i64 x.who, .int .i64 x.nn, .int .i64 x.k, .string ⟨x.n.toArray⟩, .int .i64 x.A, .int .i64 x.B, .int .i64 x.e0, .int .i64 x.e1, .int .i64 x.e2, .int .i64 x.ek, .string ⟨x.en.toArray⟩, .int .i64 x.eA, .int .i64 x.eB, .int .i64 x.er, .int .i64 x.va] 78) h hbX ⟨hBS, hsl⟩ (fun k hk => by have : k = sb := hk; omega)
    have h2 : (boxE L0 sb #[.int .i64 x.kd, .int .i64 x.who, .int .i64 x.nn, .int .i64 x.k, .string ⟨x.n.toArray⟩, .int .i64 x.A, .int .i64 x.B, .int .i64 x.e0, .int .i64 x.e1, .int .i64 x.e2, .int .i64 x.ek, .string ⟨x.en.toArray⟩, .int .i64 x.eA, .int .i64 x.eB, .int .i64 x.er, .int .i64 x.va] 78 :: stE L0 kb p S bv ts R).Perm (stE L0 kb p S bv ts (boxE L0 sb #[.int .i64 x.kd, .int .i64 x.who, .int .i64 x.nn, .int .i64 x.k, .string ⟨x.n.toArray⟩, .int .i64 x.A, .int .i64 x.B, .int .i64 x.e0, .int .i64 x.e1, .int .i64 x.e2, .int .i64 x.ek, .string ⟨x.en.toArray⟩, .int .i64 x.eA, .int .i64 x.eB, .int .i64 x.er, .int .i64 x.va] 78 :: R)) := by
      have : stE L0 kb p S bv ts R = (boxE L0 p.pb (p.cs kb) 76 :: amE L0 p.ab p.mb p.L :: rmE L0 p.rb p.v p.M :: lsE L0 p :: roE L0 S :: boxE L0 kb #[bv] 87 :: rowE L0 100 3 bv ts.length (flatT ts) :: ts.flatMap (TD.ents L0)) ++ R := by simp [stE]
      rw [this]
      have e2 : stE L0 kb p S bv ts (boxE L0 sb #[.int .i64 x.kd, .int .i64 x.who, .int .i64 x.nn, .int .i64 x.k, .string ⟨x.n.toArray⟩, .int .i64 x.A, .int .i64 x.B, .int .i64 x.e0, .int .i64 x.e1, .int .i64 x.e2, .int .i64 x.ek, .string ⟨x.en.toArray⟩, .int .i64 x.eA, .int .i64 x.eB, .int .i64 x.er, .int .i64 x.va] 78 :: R) = (boxE L0 p.pb (p.cs kb) 76 :: amE L0 p.ab p.mb p.L :: rmE L0 p.rb p.v p.M :: lsE L0 p :: roE L0 S :: boxE L0 kb #[bv] 87 :: rowE L0 100 3 bv ts.length (flatT ts) :: ts.flatMap (TD.ents L0)) ++ (boxE L0 sb #[.int .i64 x.kd, .int .i64 x.who, .int .i64 x.nn, .int .i64 x.k, .string ⟨x.n.toArray⟩, .int .i64 x.A, .int .i64 x.B, .int .i64 x.e0, .int .i64 x.e1, .int .i64 x.e2, .int .i64 x.ek, .string ⟨x.en.toArray⟩, .int .i64 x.eA, .int .i64 x.eB, .int .i64 x.er, .int .i64 x.va] 78 :: R) := by simp [stE]
      rw [e2]
      exact List.perm_middle.symm
    exact h1.perm h2
  have HOK : Hid (p.Ok K S) := hk
  have HT : Hid (TOk K ts) := ht
  have c0 : X.cell? ⟨sb, 0, none⟩ = some (.int .i64 x.kd) := hBS.cell 0
  have HBS : Hid (Blk X sb #[.int .i64 x.kd, .int .i64 x.who, .int .i64 x.nn, .int .i64 x.k, .string ⟨x.n.toArray⟩, .int .i64 x.A, .int .i64 x.B, .int .i64 x.e0, .int .i64 x.e1, .int .i64 x.e2, .int .i64 x.ek, .string ⟨x.en.toArray⟩, .int .i64 x.eA, .int .i64 x.eB, .int .i64 x.er, .int .i64 x.va] 78) := hBS
  clear h hk hbX hBS hsl ht
  rw [hkd] at c0
  clear hkd
  obtain ⟨RR, hRR⟩ : ∃ y, y = mapO x.ek x.eA x.eB x.va x.en p.L := ⟨_, rfl⟩
  have HRR : Hid (RR = mapO x.ek x.eA x.eB x.va x.en p.L) := hRR
  obtain ⟨bb, hbb⟩ : ∃ y, y = alB RR x.er x.va := ⟨_, rfl⟩
  have HBB : Hid (bb = alB RR x.er x.va) := hbb
  have HDO : Hid (∀ W, Below X.heap.size X W → Calls Try.prog 20 #[.pointer (some ⟨p.ab, 0, none⟩), .agg #[.int .i64 x.e0, .int .i64 x.e1, .int .i64 x.e2, .int .i64 x.ek, .string ⟨x.en.toArray⟩, .int .i64 x.eA, .int .i64 x.eB, .int .i64 x.er, .int .i64 x.va]] W fun e w' => ∃ hb', e = .returned (.bool bb) ∧ Held (stE L0 kb { p with L := alL RR x.er x.va x.en hb' p.L } S bv ts (boxE L0 sb #[.int .i64 x.kd, .int .i64 x.who, .int .i64 x.nn, .int .i64 x.k, .string ⟨x.n.toArray⟩, .int .i64 x.A, .int .i64 x.B, .int .i64 x.e0, .int .i64 x.e1, .int .i64 x.e2, .int .i64 x.ek, .string ⟨x.en.toArray⟩, .int .i64 x.eA, .int .i64 x.eB, .int .i64 x.er, .int .i64 x.va] 78 :: R)) w' ∧ Below L0 W w') := fun W hW => by rw [hbb, hRR]; exact st_al (HX.out.more hW) (Nat.le_trans HLX.out hW.size) x.e0 x.e1 x.e2 x.ek x.eA x.eB x.er x.va x.en hn
  have HCX : Hid ((fun wq => Blk wq p.pb (p.cs kb) 76 ∧ Blk wq sb #[.int .i64 x.kd, .int .i64 x.who, .int .i64 x.nn, .int .i64 x.k, .string ⟨x.n.toArray⟩, .int .i64 x.A, .int .i64 x.B, .int .i64 x.e0, .int .i64 x.e1, .int .i64 x.e2, .int .i64 x.ek, .string ⟨x.en.toArray⟩, .int .i64 x.eA, .int .i64 x.eB, .int .i64 x.er, .int .i64 x.va] 78) ({ X with drawn := X.drawn + 1 } : World)) := show (fun wq => Blk wq p.pb (p.cs kb) 76 ∧ Blk wq sb #[.int .i64 x.kd, .int .i64 x.who, .int .i64 x.nn, .int .i64 x.k, .string ⟨x.n.toArray⟩, .int .i64 x.A, .int .i64 x.B, .int .i64 x.e0, .int .i64 x.e1, .int .i64 x.e2, .int .i64 x.ek, .string ⟨x.en.toArray⟩, .int .i64 x.eA, .int .i64 x.eB, .int .i64 x.er, .int .i64 x.va] 78) ({ X with drawn := X.drawn + 1 } : World) from ⟨(st_sb HX.out).1, (st_sb HX.out).2⟩
  clear hRR hbb
  go_enter Try.func27, Try.ntmps27
  go_upto_region 1 with fail
  rw [← hX, ← hsb]
  clear hX hsb
  go_wp2_with fail
  first | rename_i KK hKK | skip
  try rw [show ∀ a : Act, a.put none undef = a from fun _ => rfl]
  refine wp_region_mix (fun wq => Blk wq p.pb (p.cs kb) 76 ∧ Blk wq sb #[.int .i64 x.kd, .int .i64 x.who, .int .i64 x.nn, .int .i64 x.k, .string ⟨x.n.toArray⟩, .int .i64 x.A, .int .i64 x.B, .int .i64 x.e0, .int .i64 x.e1, .int .i64 x.e2, .int .i64 x.ek, .string ⟨x.en.toArray⟩, .int .i64 x.eA, .int .i64 x.eB, .int .i64 x.er, .int .i64 x.va] 78) (fun i => i == 6 || i == 99) 99 (by kernel_rfl) rfl (by kernel_rfl) (by kernel_rfl) (by kernel_rfl) ?_
  refine withFrP (N := 75) rfl ?_
  intro f0 F0 hff
  have ee0 : f0 0 = Value.pointer (some ⟨p.pb, 0, none⟩) := hff 0
  have ee3 : f0 3 = Value.pointer (some ⟨sb, 0, none⟩) := hff 3
  clear hff
  have HCC : (fun wq => Blk wq p.pb (p.cs kb) 76 ∧ Blk wq sb #[.int .i64 x.kd, .int .i64 x.who, .int .i64 x.nn, .int .i64 x.k, .string ⟨x.n.toArray⟩, .int .i64 x.A, .int .i64 x.B, .int .i64 x.e0, .int .i64 x.e1, .int .i64 x.e2, .int .i64 x.ek, .string ⟨x.en.toArray⟩, .int .i64 x.eA, .int .i64 x.eB, .int .i64 x.er, .int .i64 x.va] 78) (({ X with drawn := X.drawn + 1 } : World)) := HCX.out
  refine lyp F0 rfl HCC rfl (by omega) (wanted_none rfl) (v := Value.pointer (some ⟨p.pb, 0, none⟩)) (fun wr hwr => by simp only [execOp, (F0.eval 0 (by omega)).trans (show _ = Value.pointer (some ⟨p.pb, 0, none⟩) from by simp [upd, ee0, ee3])]; first | rfl | simp [go_sem]) fun F1 => ?_
  refine lyp F1 rfl HCC rfl (by omega) (wanted_none rfl) (v := Value.pointer (some ⟨p.pb, 0, none⟩)) (fun wr hwr => by simp only [execOp, (F1.eval 48 (by omega)).trans (show _ = Value.pointer (some ⟨p.pb, 0, none⟩) from by simp [upd, ee0, ee3])]; simp [go_sem]) fun F2 => ?_
  refine lyp F2 rfl HCC rfl (by omega) (wanted_none rfl) (v := Value.pointer (some ⟨p.pb, 0, none⟩)) (fun wr hwr => by simp only [execOp, (F2.eval 49 (by omega)).trans (show _ = Value.pointer (some ⟨p.pb, 0, none⟩) from by simp [upd, ee0, ee3])]; simp [go_sem]) fun F3 => ?_
  refine lyp F3 rfl HCC rfl (by omega) (wanted_none rfl) (v := Value.pointer (some ⟨p.ab, 0, none⟩)) (fun wr hwr => by simp only [execOp, (F3.eval 50 (by omega)).trans (show _ = Value.pointer (some ⟨p.pb, 0, none⟩) from by simp [upd, ee0, ee3])]; simp [go_sem, show wr.cell? ⟨p.pb, 0, none⟩ = some (.pointer (some ⟨p.ab, 0, none⟩)) from hwr.1.cell 0]) fun F4 => ?_
  refine lyp F4 rfl HCC rfl (by omega) (wanted_none rfl) (v := Value.pointer (some ⟨sb, 7, none⟩)) (fun wr hwr => by simp only [execOp, (F4.eval 3 (by omega)).trans (show _ = Value.pointer (some ⟨sb, 0, none⟩) from by simp [upd, ee0, ee3])]; simp [go_sem]) fun F5 => ?_
  refine lyp F5 rfl HCC rfl (by omega) (wanted_none rfl) (v := Value.agg #[.int .i64 x.e0, .int .i64 x.e1, .int .i64 x.e2, .int .i64 x.ek, .string ⟨x.en.toArray⟩, .int .i64 x.eA, .int .i64 x.eB, .int .i64 x.er, .int .i64 x.va]) (fun wr hwr => by simp only [execOp, (F5.eval 52 (by omega)).trans (show _ = Value.pointer (some ⟨sb, 7, none⟩) from by simp [upd, ee0, ee3])]; simp [go_sem, show wr.cell? ⟨sb, 7, none⟩ = some (.int .i64 x.e0) from hwr.2.cell 7, show wr.cell? ⟨sb, 8, none⟩ = some (.int .i64 x.e1) from hwr.2.cell 8, show wr.cell? ⟨sb, 9, none⟩ = some (.int .i64 x.e2) from hwr.2.cell 9, show wr.cell? ⟨sb, 10, none⟩ = some (.int .i64 x.ek) from hwr.2.cell 10, show wr.cell? ⟨sb, 11, none⟩ = some (.string ⟨x.en.toArray⟩) from hwr.2.cell 11, show wr.cell? ⟨sb, 12, none⟩ = some (.int .i64 x.eA) from hwr.2.cell 12, show wr.cell? ⟨sb, 13, none⟩ = some (.int .i64 x.eB) from hwr.2.cell 13, show wr.cell? ⟨sb, 14, none⟩ = some (.int .i64 x.er) from hwr.2.cell 14, show wr.cell? ⟨sb, 15, none⟩ = some (.int .i64 x.va) from hwr.2.cell 15]) fun F6 => ?_
  refine lcp F6 rfl HCC rfl (by omega) (wanted_none rfl) (g := 20) (args := #[Value.pointer (some ⟨p.ab, 0, none⟩), Value.agg #[.int .i64 x.e0, .int .i64 x.e1, .int .i64 x.e2, .int .i64 x.ek, .string ⟨x.en.toArray⟩, .int .i64 x.eA, .int .i64 x.eB, .int .i64 x.er, .int .i64 x.va]]) (by simp only [execOp, resolve, invoke, List.map_toArray, List.map_cons, List.map_nil, (F6.eval 51 (by omega)).trans (show _ = Value.pointer (some ⟨p.ab, 0, none⟩) from by simp [upd, ee0, ee3]), (F6.eval 53 (by omega)).trans (show _ = Value.agg #[.int .i64 x.e0, .int .i64 x.e1, .int .i64 x.e2, .int .i64 x.ek, .string ⟨x.en.toArray⟩, .int .i64 x.eA, .int .i64 x.eB, .int .i64 x.er, .int .i64 x.va] from by simp [upd, ee0, ee3])]; simp [go_sem, Act.eval]) (HDO.out ({ X with drawn := X.drawn + 1 } : World) (Below.drew (Below.refl _ _))) ?_
  rintro e9 w1 ⟨hb', rfl, hH1, hb1⟩
  have HCN : Hid ((fun wq => Blk wq p.pb (p.cs kb) 76 ∧ Blk wq sb #[.int .i64 x.kd, .int .i64 x.who, .int .i64 x.nn, .int .i64 x.k, .string ⟨x.n.toArray⟩, .int .i64 x.A, .int .i64 x.B, .int .i64 x.e0, .int .i64 x.e1, .int .i64 x.e2, .int .i64 x.ek, .string ⟨x.en.toArray⟩, .int .i64 x.eA, .int .i64 x.eB, .int .i64 x.er, .int .i64 x.va] 78) w1) := show (fun wq => Blk wq p.pb (p.cs kb) 76 ∧ Blk wq sb #[.int .i64 x.kd, .int .i64 x.who, .int .i64 x.nn, .int .i64 x.k, .string ⟨x.n.toArray⟩, .int .i64 x.A, .int .i64 x.B, .int .i64 x.e0, .int .i64 x.e1, .int .i64 x.e2, .int .i64 x.ek, .string ⟨x.en.toArray⟩, .int .i64 x.eA, .int .i64 x.eB, .int .i64 x.er, .int .i64 x.va] 78) w1 from ⟨(st_sb hH1).1, (st_sb hH1).2⟩
  refine ⟨_, rfl, fun F7 => ?_⟩
  have HC2 : (fun wq => Blk wq p.pb (p.cs kb) 76 ∧ Blk wq sb #[.int .i64 x.kd, .int .i64 x.who, .int .i64 x.nn, .int .i64 x.k, .string ⟨x.n.toArray⟩, .int .i64 x.A, .int .i64 x.B, .int .i64 x.e0, .int .i64 x.e1, .int .i64 x.e2, .int .i64 x.ek, .string ⟨x.en.toArray⟩, .int .i64 x.eA, .int .i64 x.eB, .int .i64 x.er, .int .i64 x.va] 78) w1 := HCN.out
  refine lyp F7 rfl HC2 rfl (by omega) (wanted_none rfl) (v := Value.bool bb) (fun wr hwr => by simp only [execOp, (F7.eval 54 (by omega)).trans (show _ = Value.bool bb from by simp [upd, ee0, ee3])]; first | rfl | simp [go_sem]) fun F8 => ?_
  refine ⟨fun _ => HC2, ?_⟩
  first | refine hKK _ _ ?_ | skip
  clear F0 F1 F2 F3 F4 F5 F6 F7 F8 ee0 ee3 HCC HC2
  simp only [Act.put, List.setIfInBounds_toArray, List.set_cons_succ, List.set_cons_zero]
  obtain ⟨L1, hL1⟩ : ∃ y, y = alL RR x.er x.va x.en hb' p.L := ⟨_, rfl⟩
  rw [← hL1] at hH1
  have H1 : Hid (Held (stE L0 kb { p with L := L1 } S bv ts (boxE L0 sb #[.int .i64 x.kd, .int .i64 x.who, .int .i64 x.nn, .int .i64 x.k, .string ⟨x.n.toArray⟩, .int .i64 x.A, .int .i64 x.B, .int .i64 x.e0, .int .i64 x.e1, .int .i64 x.e2, .int .i64 x.ek, .string ⟨x.en.toArray⟩, .int .i64 x.eA, .int .i64 x.eB, .int .i64 x.er, .int .i64 x.va] 78 :: R)) w1) := hH1
  have HL1 : Hid (L1 = alL RR x.er x.va x.en hb' p.L) := hL1
  have HB1 : Hid (Below L0 w w1) := HBX.out.trans (show Below L0 X w1 from ⟨hb1.os, hb1.tape, hb1.output, hb1.size, hb1.block⟩)
  have HLL1 : Hid (L0 ≤ w1.heap.size) := show L0 ≤ w1.heap.size from Nat.le_trans hL HB1.out.size
  have HALL : Hid (∀ W, Held (stE L0 kb { p with L := L1 } S bv ts (boxE L0 sb #[.int .i64 x.kd, .int .i64 x.who, .int .i64 x.nn, .int .i64 x.k, .string ⟨x.n.toArray⟩, .int .i64 x.A, .int .i64 x.B, .int .i64 x.e0, .int .i64 x.e1, .int .i64 x.e2, .int .i64 x.ek, .string ⟨x.en.toArray⟩, .int .i64 x.eA, .int .i64 x.eB, .int .i64 x.er, .int .i64 x.va] 78 :: R)) W → RAll L0 K p.M W) := fun W hW => ⟨fun c hc => st_ro hW c (HOK.out.sub c hc), (st_oks HX.out HOK.out).ok, (st_oks HX.out HOK.out).len, (st_oks HX.out HOK.out).kd⟩
  have HRD : Hid (∀ W, Below w1.heap.size w1 W → Calls Try.prog 37 #[.pointer (some ⟨p.rb, 0, none⟩), .agg #[.int .i64 x.e0, .int .i64 x.e1, .int .i64 x.e2, .int .i64 x.ek, .string ⟨x.en.toArray⟩, .int .i64 x.eA, .int .i64 x.eB, .int .i64 x.er, .int .i64 x.va]] W fun e w' => ∃ a er M' M2 v', RRes x.ek x.eA x.eB x.va x.en p.M a er M' ∧ e = .returned (.bool (alR a er x.er x.va)) ∧ M2 = (bif alR a er x.er x.va then M' else p.M) ∧ Held (stE L0 kb { p with L := L1, M := M2, v := v' } (S ++ M2) bv ts (boxE L0 sb #[.int .i64 x.kd, .int .i64 x.who, .int .i64 x.nn, .int .i64 x.k, .string ⟨x.n.toArray⟩, .int .i64 x.A, .int .i64 x.B, .int .i64 x.e0, .int .i64 x.e1, .int .i64 x.e2, .int .i64 x.ek, .string ⟨x.en.toArray⟩, .int .i64 x.eA, .int .i64 x.eB, .int .i64 x.er, .int .i64 x.va] 78 :: R)) w' ∧ Below L0 W w') := fun W hW => st_ral (H1.out.more hW) (Nat.le_trans HLL1.out hW.size) HALL.out HOK.out.sub hK x.e0 x.e1 x.e2 x.ek x.eA x.eB x.er x.va x.en hn
  have HCX2 : Hid ((fun wq => Blk wq p.pb (p.cs kb) 76 ∧ Blk wq sb #[.int .i64 x.kd, .int .i64 x.who, .int .i64 x.nn, .int .i64 x.k, .string ⟨x.n.toArray⟩, .int .i64 x.A, .int .i64 x.B, .int .i64 x.e0, .int .i64 x.e1, .int .i64 x.e2, .int .i64 x.ek, .string ⟨x.en.toArray⟩, .int .i64 x.eA, .int .i64 x.eB, .int .i64 x.er, .int .i64 x.va] 78) ({ w1 with drawn := w1.drawn + 1 } : World)) := show (fun wq => Blk wq p.pb (p.cs kb) 76 ∧ Blk wq sb #[.int .i64 x.kd, .int .i64 x.who, .int .i64 x.nn, .int .i64 x.k, .string ⟨x.n.toArray⟩, .int .i64 x.A, .int .i64 x.B, .int .i64 x.e0, .int .i64 x.e1, .int .i64 x.e2, .int .i64 x.ek, .string ⟨x.en.toArray⟩, .int .i64 x.eA, .int .i64 x.eB, .int .i64 x.er, .int .i64 x.va] 78) ({ w1 with drawn := w1.drawn + 1 } : World) from HCN.out
  clear HCX hL1 hH1 hb1 HDO HCN
  have HCX := HCX2
  clear HCX2
  go_wp2_with fail
  first | rename_i KK hKK | skip
  try rw [show ∀ a : Act, a.put none undef = a from fun _ => rfl]
  refine wp_region_mix (fun wq => Blk wq p.pb (p.cs kb) 76 ∧ Blk wq sb #[.int .i64 x.kd, .int .i64 x.who, .int .i64 x.nn, .int .i64 x.k, .string ⟨x.n.toArray⟩, .int .i64 x.A, .int .i64 x.B, .int .i64 x.e0, .int .i64 x.e1, .int .i64 x.e2, .int .i64 x.ek, .string ⟨x.en.toArray⟩, .int .i64 x.eA, .int .i64 x.eB, .int .i64 x.er, .int .i64 x.va] 78) (fun i => i == 7 || i == 99) 99 (by kernel_rfl) rfl (by kernel_rfl) (by kernel_rfl) (by kernel_rfl) ?_
  refine withFrP (N := 75) rfl ?_
  intro f0 F0 hff
  have ee0 : f0 0 = Value.pointer (some ⟨p.pb, 0, none⟩) := hff 0
  have ee3 : f0 3 = Value.pointer (some ⟨sb, 0, none⟩) := hff 3
  have ee9 : f0 9 = Value.bool bb := hff 9
  clear hff
  have HCC : (fun wq => Blk wq p.pb (p.cs kb) 76 ∧ Blk wq sb #[.int .i64 x.kd, .int .i64 x.who, .int .i64 x.nn, .int .i64 x.k, .string ⟨x.n.toArray⟩, .int .i64 x.A, .int .i64 x.B, .int .i64 x.e0, .int .i64 x.e1, .int .i64 x.e2, .int .i64 x.ek, .string ⟨x.en.toArray⟩, .int .i64 x.eA, .int .i64 x.eB, .int .i64 x.er, .int .i64 x.va] 78) (({ w1 with drawn := w1.drawn + 1 } : World)) := HCX.out
  refine lyp F0 rfl HCC rfl (by omega) (wanted_none rfl) (v := Value.bool bb) (fun wr hwr => by simp only [execOp, (F0.eval 9 (by omega)).trans (show _ = Value.bool bb from by simp [upd, ee0, ee3, ee9])]; first | rfl | simp [go_sem]) fun F1 => ?_
  refine lyp F1 rfl HCC rfl (by omega) (wanted_none rfl) (v := Value.pointer (some ⟨p.pb, 0, none⟩)) (fun wr hwr => by simp only [execOp, (F1.eval 0 (by omega)).trans (show _ = Value.pointer (some ⟨p.pb, 0, none⟩) from by simp [upd, ee0, ee3, ee9])]; first | rfl | simp [go_sem]) fun F2 => ?_
  refine lyp F2 rfl HCC rfl (by omega) (wanted_none rfl) (v := Value.pointer (some ⟨p.pb, 0, none⟩)) (fun wr hwr => by simp only [execOp, (F2.eval 56 (by omega)).trans (show _ = Value.pointer (some ⟨p.pb, 0, none⟩) from by simp [upd, ee0, ee3, ee9])]; simp [go_sem]) fun F3 => ?_
  refine lyp F3 rfl HCC rfl (by omega) (wanted_none rfl) (v := Value.pointer (some ⟨p.pb, 1, none⟩)) (fun wr hwr => by simp only [execOp, (F3.eval 57 (by omega)).trans (show _ = Value.pointer (some ⟨p.pb, 0, none⟩) from by simp [upd, ee0, ee3, ee9])]; simp [go_sem]) fun F4 => ?_
  refine lyp F4 rfl HCC rfl (by omega) (wanted_none rfl) (v := Value.pointer (some ⟨p.rb, 0, none⟩)) (fun wr hwr => by simp only [execOp, (F4.eval 58 (by omega)).trans (show _ = Value.pointer (some ⟨p.pb, 1, none⟩) from by simp [upd, ee0, ee3, ee9])]; simp [go_sem, show wr.cell? ⟨p.pb, 1, none⟩ = some (.pointer (some ⟨p.rb, 0, none⟩)) from hwr.1.cell 1]) fun F5 => ?_
  refine lyp F5 rfl HCC rfl (by omega) (wanted_none rfl) (v := Value.pointer (some ⟨sb, 7, none⟩)) (fun wr hwr => by simp only [execOp, (F5.eval 3 (by omega)).trans (show _ = Value.pointer (some ⟨sb, 0, none⟩) from by simp [upd, ee0, ee3, ee9])]; simp [go_sem]) fun F6 => ?_
  refine lyp F6 rfl HCC rfl (by omega) (wanted_none rfl) (v := Value.agg #[.int .i64 x.e0, .int .i64 x.e1, .int .i64 x.e2, .int .i64 x.ek, .string ⟨x.en.toArray⟩, .int .i64 x.eA, .int .i64 x.eB, .int .i64 x.er, .int .i64 x.va]) (fun wr hwr => by simp only [execOp, (F6.eval 60 (by omega)).trans (show _ = Value.pointer (some ⟨sb, 7, none⟩) from by simp [upd, ee0, ee3, ee9])]; simp [go_sem, show wr.cell? ⟨sb, 7, none⟩ = some (.int .i64 x.e0) from hwr.2.cell 7, show wr.cell? ⟨sb, 8, none⟩ = some (.int .i64 x.e1) from hwr.2.cell 8, show wr.cell? ⟨sb, 9, none⟩ = some (.int .i64 x.e2) from hwr.2.cell 9, show wr.cell? ⟨sb, 10, none⟩ = some (.int .i64 x.ek) from hwr.2.cell 10, show wr.cell? ⟨sb, 11, none⟩ = some (.string ⟨x.en.toArray⟩) from hwr.2.cell 11, show wr.cell? ⟨sb, 12, none⟩ = some (.int .i64 x.eA) from hwr.2.cell 12, show wr.cell? ⟨sb, 13, none⟩ = some (.int .i64 x.eB) from hwr.2.cell 13, show wr.cell? ⟨sb, 14, none⟩ = some (.int .i64 x.er) from hwr.2.cell 14, show wr.cell? ⟨sb, 15, none⟩ = some (.int .i64 x.va) from hwr.2.cell 15]) fun F7 => ?_
  refine lcp F7 rfl HCC rfl (by omega) (wanted_none rfl) (g := 37) (args := #[Value.pointer (some ⟨p.rb, 0, none⟩), Value.agg #[.int .i64 x.e0, .int .i64 x.e1, .int .i64 x.e2, .int .i64 x.ek, .string ⟨x.en.toArray⟩, .int .i64 x.eA, .int .i64 x.eB, .int .i64 x.er, .int .i64 x.va]]) (by simp only [execOp, resolve, invoke, List.map_toArray, List.map_cons, List.map_nil, (F7.eval 59 (by omega)).trans (show _ = Value.pointer (some ⟨p.rb, 0, none⟩) from by simp [upd, ee0, ee3, ee9]), (F7.eval 61 (by omega)).trans (show _ = Value.agg #[.int .i64 x.e0, .int .i64 x.e1, .int .i64 x.e2, .int .i64 x.ek, .string ⟨x.en.toArray⟩, .int .i64 x.eA, .int .i64 x.eB, .int .i64 x.er, .int .i64 x.va] from by simp [upd, ee0, ee3, ee9])]; simp [go_sem, Act.eval]) (HRD.out ({ w1 with drawn := w1.drawn + 1 } : World) (Below.drew (Below.refl _ _))) ?_
  rintro e9 w2 ⟨a, er, M', M2, v', hres, rfl, hM2, hH2, hb2⟩
  obtain ⟨⟨ha, he⟩, hag⟩ := AgM.step HOK.out.ag (fun q hq => ⟨((st_am HX.out).1.ct q hq).1, ((st_am HX.out).1.ct q hq).2.1⟩) hres
  rw [← HRR.out] at ha he hag
  have hbe : alR a er x.er x.va = bb := by rw [HBB.out, ha, he]; rfl
  rw [hbe] at hM2
  rw [hbe]
  have HCN : Hid ((fun wq => Blk wq p.pb (p.cs kb) 76 ∧ Blk wq sb #[.int .i64 x.kd, .int .i64 x.who, .int .i64 x.nn, .int .i64 x.k, .string ⟨x.n.toArray⟩, .int .i64 x.A, .int .i64 x.B, .int .i64 x.e0, .int .i64 x.e1, .int .i64 x.e2, .int .i64 x.ek, .string ⟨x.en.toArray⟩, .int .i64 x.eA, .int .i64 x.eB, .int .i64 x.er, .int .i64 x.va] 78) w2) := show (fun wq => Blk wq p.pb (p.cs kb) 76 ∧ Blk wq sb #[.int .i64 x.kd, .int .i64 x.who, .int .i64 x.nn, .int .i64 x.k, .string ⟨x.n.toArray⟩, .int .i64 x.A, .int .i64 x.B, .int .i64 x.e0, .int .i64 x.e1, .int .i64 x.e2, .int .i64 x.ek, .string ⟨x.en.toArray⟩, .int .i64 x.eA, .int .i64 x.eB, .int .i64 x.er, .int .i64 x.va] 78) w2 from ⟨(st_sb hH2).1, (st_sb hH2).2⟩
  refine ⟨_, rfl, fun F8 => ?_⟩
  have HC2 : (fun wq => Blk wq p.pb (p.cs kb) 76 ∧ Blk wq sb #[.int .i64 x.kd, .int .i64 x.who, .int .i64 x.nn, .int .i64 x.k, .string ⟨x.n.toArray⟩, .int .i64 x.A, .int .i64 x.B, .int .i64 x.e0, .int .i64 x.e1, .int .i64 x.e2, .int .i64 x.ek, .string ⟨x.en.toArray⟩, .int .i64 x.eA, .int .i64 x.eB, .int .i64 x.er, .int .i64 x.va] 78) w2 := HCN.out
  refine lyp F8 rfl HC2 rfl (by omega) (wanted_none rfl) (v := Value.bool true) (fun wr hwr => by simp only [execOp, (F8.eval 55 (by omega)).trans (show _ = Value.bool bb from by simp [upd, ee0, ee3, ee9]), (F8.eval 62 (by omega)).trans (show _ = Value.bool bb from by simp [upd, ee0, ee3, ee9])]; simp [go_sem, Act.eval]) fun F9 => ?_
  refine lyp F9 rfl HC2 rfl (by omega) (wanted_none rfl) (v := Value.bool true) (fun wr hwr => by simp only [execOp, (F9.eval 63 (by omega)).trans (show _ = Value.bool true from by simp [upd, ee0, ee3, ee9])]; first | rfl | simp [go_sem]) fun F10 => ?_
  refine ⟨fun _ => HC2, ?_⟩
  first | refine hKK _ _ ?_ | skip
  clear F0 F1 F2 F3 F4 F5 F6 F7 F8 F9 F10 ee0 ee3 ee9 HCC HC2
  simp only [Act.put, List.setIfInBounds_toArray, List.set_cons_succ, List.set_cons_zero]
  have hagF : AgM (K + 1) L1 M2 := by
    rw [HL1.out, hM2]
    cases bb with
    | true => rw [alL_yes HBB.out.symm]; exact hag hb'
    | false => rw [alL_no HBB.out.symm]; exact HOK.out.ag.mono (Nat.le_succ _)
  have hlen : L1.length ≤ K + 1 := by
    rw [HL1.out]
    have := doL_len RR x.en hb' p.L
    have := HOK.out.ll
    cases hb9 : alB RR x.er x.va with
    | true => rw [alL_yes hb9]; omega
    | false => rw [alL_no hb9]; omega
  have HF : Hid (PdPost L0 kb K p S R w (.returned (.bool true)) w2) := ⟨{ p with L := L1, M := M2, v := v' }, S ++ M2, bv, ts, rfl, Held_dropR hH2, ⟨hagF, fun c hc => List.mem_append_right _ hc, Nat.le_succ_of_le HOK.out.ln, hlen⟩, rfl, fun c hc => List.mem_append_left _ hc, HT.out.mono (Nat.le_succ _), HB1.out.trans (show Below L0 w1 w2 from ⟨hb2.os, hb2.tape, hb2.output, hb2.size, hb2.block⟩)⟩
  clear hres hH2 hb2 hag HCN HCX HRD hagF hlen hM2 hbe ha he
  go_wp2_with fail
  go_ret
  exact HF.out
set_option maxRecDepth 100000 in
set_option maxHeartbeats 6400000 in
theorem played_3 {L0 kb K : Nat} {p : PR} {S : List RC} {bv : Value} {ts : List TD} {R : List (Ent L0)} (x : SA) (w : World) (h : Held (stE L0 kb p S bv ts R) w) (hL : L0 ≤ w.heap.size) (hk : p.Ok K S) (ht : TOk K ts) (hK : K ≤ 90000) (hkd : x.kd = 3) :
    Calls Try.prog 27 #[.pointer (some ⟨p.pb, 0, none⟩), .agg #[.int .i64 x.kd, .int .i64 x.who, .int .i64 x.nn, .int .i64 x.k, .string ⟨x.n.toArray⟩, .int .i64 x.A, .int .i64 x.B, .int .i64 x.e0, .int .i64 x.e1, .int .i64 x.e2, .int .i64 x.ek, .string ⟨x.en.toArray⟩, .int .i64 x.eA, .int .i64 x.eB, .int .i64 x.er, .int .i64 x.va]] w (PdPost L0 kb K p S R w) := by
  obtain ⟨sb, hsb⟩ : ∃ b, b = w.heap.size := ⟨_, rfl⟩
  obtain ⟨X, hX⟩ : ∃ X, X = w.alloc (.cells #[.int .i64 x.kd, .int .i64 x.who, .int .i64 x.nn, .int .i64 x.k, .string ⟨x.n.toArray⟩, .int .i64 x.A, .int .i64 x.B, .int .i64 x.e0, .int .i64 x.e1, .int .i64 x.e2, .int .i64 x.ek, .string ⟨x.en.toArray⟩, .int .i64 x.eA, .int .i64 x.eB, .int .i64 x.er, .int .i64 x.va] 78) := ⟨_, rfl⟩
  have hbX : Below w.heap.size w X := by rw [hX]; exact (Below.refl _ _).alloc (Nat.le_refl _) _
  have hBS : Blk X sb #[.int .i64 x.kd, .int .i64 x.who, .int .i64 x.nn, .int .i64 x.k, .string ⟨x.n.toArray⟩, .int .i64 x.A, .int .i64 x.B, .int .i64 x.e0, .int .i64 x.e1, .int .i64 x.e2, .int .i64 x.ek, .string ⟨x.en.toArray⟩, .int .i64 x.eA, .int .i64 x.eB, .int .i64 x.er, .int .i64 x.va] 78 := by rw [hX, hsb]; exact heap_alloc_new w _
  have HBX : Hid (Below L0 w X) := hbX.mono hL
  have HLX : Hid (L0 ≤ X.heap.size) := show L0 ≤ X.heap.size from Nat.le_trans hL hbX.size
  have hsl : L0 ≤ sb := by omega
  have HX : Hid (Held (stE L0 kb p S bv ts (boxE L0 sb #[.int .i64 x.kd, .int .i64 x.who, .int .i64 x.nn, .int .i64 x.k, .string ⟨x.n.toArray⟩, .int .i64 x.A, .int .i64 x.B, .int .i64 x.e0, .int .i64 x.e1, .int .i64 x.e2, .int .i64 x.ek, .string ⟨x.en.toArray⟩, .int .i64 x.eA, .int .i64 x.eB, .int .i64 x.er, .int .i64 x.va] 78 :: R)) X) := show Held (stE L0 kb p S bv ts (boxE L0 sb #[.int .i64 x.kd, .int .i64 x.who, .int .i64 x.nn, .int .i64 x.k, .string ⟨x.n.toArray⟩, .int .i64 x.A, .int .i64 x.B, .int .i64 x.e0, .int .i64 x.e1, .int .i64 x.e2, .int .i64 x.ek, .string ⟨x.en.toArray⟩, .int .i64 x.eA, .int .i64 x.eB, .int .i64 x.er, .int .i64 x.va] 78 :: R)) X from by
    have h1 := Held.fresh (e := boxE L0 sb #[.int .i64 x.kd, .int .i64 x.who, .int .i64 x.nn, .int .i64 x.k, .string ⟨x.n.toArray⟩, .int .i64 x.A, .int .i64 x.B, .int .i64 x.e0, .int .i64 x.e1, .int .i64 x.e2, .int .i64 x.ek, .string ⟨x.en.toArray⟩, .int .i64 x.eA, .int .i64 x.eB, .int .i64 x.er, .int .i64 x.va] 78) h hbX ⟨hBS, hsl⟩ (fun k hk => by have : k = sb := hk; omega)
    have h2 : (boxE L0 sb #[.int .i64 x.kd, .int .i64 x.who, .int .i64 x.nn, .int .i64 x.k, .string ⟨x.n.toArray⟩, .int .i64 x.A, .int .i64 x.B, .int .i64 x.e0, .int .i64 x.e1, .int .i64 x.e2, .int .i64 x.ek, .string ⟨x.en.toArray⟩, .int .i64 x.eA, .int .i64 x.eB, .int .i64 x.er, .int .i64 x.va] 78 :: stE L0 kb p S bv ts R).Perm (stE L0 kb p S bv ts (boxE L0 sb #[.int .i64 x.kd, .int .i64 x.who, .int .i64 x.nn, .int .i64 x.k, .string ⟨x.n.toArray⟩, .int .i64 x.A, .int .i64 x.B, .int .i64 x.e0, .int .i64 x.e1, .int .i64 x.e2, .int .i64 x.ek, .string ⟨x.en.toArray⟩, .int .i64 x.eA, .int .i64 x.eB, .int .i64 x.er, .int .i64 x.va] 78 :: R)) := by
      have : stE L0 kb p S bv ts R = (boxE L0 p.pb (p.cs kb) 76 :: amE L0 p.ab p.mb p.L :: rmE L0 p.rb p.v p.M :: lsE L0 p :: roE L0 S :: boxE L0 kb #[bv] 87 :: rowE L0 100 3 bv ts.length (flatT ts) :: ts.flatMap (TD.ents L0)) ++ R := by simp [stE]
      rw [this]
      have e2 : stE L0 kb p S bv ts (boxE L0 sb #[.int .i64 x.kd, .int .i64 x.who, .int .i64 x.nn, .int .i64 x.k, .string ⟨x.n.toArray⟩, .int .i64 x.A, .int .i64 x.B, .int .i64 x.e0, .int .i64 x.e1, .int .i64 x.e2, .int .i64 x.ek, .string ⟨x.en.toArray⟩, .int .i64 x.eA, .int .i64 x.eB, .int .i64 x.er, .int .i64 x.va] 78 :: R) = (boxE L0 p.pb (p.cs kb) 76 :: amE L0 p.ab p.mb p.L :: rmE L0 p.rb p.v p.M :: lsE L0 p :: roE L0 S :: boxE L0 kb #[bv] 87 :: rowE L0 100 3 bv ts.length (flatT ts) :: ts.flatMap (TD.ents L0)) ++ (boxE L0 sb #[.int .i64 x.kd, .int .i64 x.who, .int .i64 x.nn, .int .i64 x.k, .string ⟨x.n.toArray⟩, .int .i64 x.A, .int .i64 x.B, .int .i64 x.e0, .int .i64 x.e1, .int .i64 x.e2, .int .i64 x.ek, .string ⟨x.en.toArray⟩, .int .i64 x.eA, .int .i64 x.eB, .int .i64 x.er, .int .i64 x.va] 78 :: R) := by simp [stE]
      rw [e2]
      exact List.perm_middle.symm
    exact h1.perm h2
  have HOK : Hid (p.Ok K S) := hk
  have HT : Hid (TOk K ts) := ht
  have c0 : X.cell? ⟨sb, 0, none⟩ = some (.int .i64 x.kd) := hBS.cell 0
  have HBS : Hid (Blk X sb #[.int .i64 x.kd, .int .i64 x.who, .int .i64 x.nn, .int .i64 x.k, .string ⟨x.n.toArray⟩, .int .i64 x.A, .int .i64 x.B, .int .i64 x.e0, .int .i64 x.e1, .int .i64 x.e2, .int .i64 x.ek, .string ⟨x.en.toArray⟩, .int .i64 x.eA, .int .i64 x.eB, .int .i64 x.er, .int .i64 x.va] 78) := hBS
  clear h hk hbX hBS hsl ht
  rw [hkd] at c0
  clear hkd
  have HPK : Hid _ := peeks_any x.n X HX.out HLX.out HOK.out hK
  have c4 : X.cell? ⟨sb, 4, none⟩ = some (.string ⟨x.n.toArray⟩) := HBS.out.cell 4
  go_enter Try.func27, Try.ntmps27
  go_upto_region 1 with fail
  rw [← hX, ← hsb]
  clear hX hsb
  go_wp2_with fail
  refine Calls.mono HPK.out ?_
  rintro e9 w1 ⟨rfl, hb1⟩
  have HF : Hid (PdPost L0 kb K p S R w (.returned (.bool true)) w1) := ⟨p, S, bv, ts, rfl, Held_dropR (HX.out.more hb1), HOK.out.mono (Nat.le_succ _) (fun c hc => hc), rfl, fun c hc => hc, HT.out.mono (Nat.le_succ _), HBX.out.trans (hb1.mono HLX.out)⟩
  clear hb1 HPK
  go_wp2_with fail
  go_ret
  exact HF.out
set_option maxRecDepth 100000 in
set_option maxHeartbeats 6400000 in
theorem played_0 {L0 kb K : Nat} {p : PR} {S : List RC} {bv : Value} {ts : List TD} {R : List (Ent L0)} (x : SA) (w : World) (h : Held (stE L0 kb p S bv ts R) w) (hL : L0 ≤ w.heap.size) (hk : p.Ok K S) (ht : TOk K ts) (hK : K ≤ 90000) (h1 : ¬ x.kd = 1) (h2 : ¬ x.kd = 2) (h3 : ¬ x.kd = 3) (h4 : ¬ x.kd = 4) :
    Calls Try.prog 27 #[.pointer (some ⟨p.pb, 0, none⟩), .agg #[.int .i64 x.kd, .int .i64 x.who, .int .i64 x.nn, .int .i64 x.k, .string ⟨x.n.toArray⟩, .int .i64 x.A, .int .i64 x.B, .int .i64 x.e0, .int .i64 x.e1, .int .i64 x.e2, .int .i64 x.ek, .string ⟨x.en.toArray⟩, .int .i64 x.eA, .int .i64 x.eB, .int .i64 x.er, .int .i64 x.va]] w (PdPost L0 kb K p S R w) := by
  obtain ⟨sb, hsb⟩ : ∃ b, b = w.heap.size := ⟨_, rfl⟩
  obtain ⟨X, hX⟩ : ∃ X, X = w.alloc (.cells #[.int .i64 x.kd, .int .i64 x.who, .int .i64 x.nn, .int .i64 x.k, .string ⟨x.n.toArray⟩, .int .i64 x.A, .int .i64 x.B, .int .i64 x.e0, .int .i64 x.e1, .int .i64 x.e2, .int .i64 x.ek, .string ⟨x.en.toArray⟩, .int .i64 x.eA, .int .i64 x.eB, .int .i64 x.er, .int .i64 x.va] 78) := ⟨_, rfl⟩
  have hbX : Below w.heap.size w X := by rw [hX]; exact (Below.refl _ _).alloc (Nat.le_refl _) _
  have hBS : Blk X sb #[.int .i64 x.kd, .int .i64 x.who, .int .i64 x.nn, .int .i64 x.k, .string ⟨x.n.toArray⟩, .int .i64 x.A, .int .i64 x.B, .int .i64 x.e0, .int .i64 x.e1, .int .i64 x.e2, .int .i64 x.ek, .string ⟨x.en.toArray⟩, .int .i64 x.eA, .int .i64 x.eB, .int .i64 x.er, .int .i64 x.va] 78 := by rw [hX, hsb]; exact heap_alloc_new w _
  have HBX : Hid (Below L0 w X) := hbX.mono hL
  have HLX : Hid (L0 ≤ X.heap.size) := show L0 ≤ X.heap.size from Nat.le_trans hL hbX.size
  have hsl : L0 ≤ sb := by omega
  have HX : Hid (Held (stE L0 kb p S bv ts (boxE L0 sb #[.int .i64 x.kd, .int .i64 x.who, .int .i64 x.nn, .int .i64 x.k, .string ⟨x.n.toArray⟩, .int .i64 x.A, .int .i64 x.B, .int .i64 x.e0, .int .i64 x.e1, .int .i64 x.e2, .int .i64 x.ek, .string ⟨x.en.toArray⟩, .int .i64 x.eA, .int .i64 x.eB, .int .i64 x.er, .int .i64 x.va] 78 :: R)) X) := show Held (stE L0 kb p S bv ts (boxE L0 sb #[.int .i64 x.kd, .int .i64 x.who, .int .i64 x.nn, .int .i64 x.k, .string ⟨x.n.toArray⟩, .int .i64 x.A, .int .i64 x.B, .int .i64 x.e0, .int .i64 x.e1, .int .i64 x.e2, .int .i64 x.ek, .string ⟨x.en.toArray⟩, .int .i64 x.eA, .int .i64 x.eB, .int .i64 x.er, .int .i64 x.va] 78 :: R)) X from by
    have h1 := Held.fresh (e := boxE L0 sb #[.int .i64 x.kd, .int .i64 x.who, .int .i64 x.nn, .int .i64 x.k, .string ⟨x.n.toArray⟩, .int .i64 x.A, .int .i64 x.B, .int .i64 x.e0, .int .i64 x.e1, .int .i64 x.e2, .int .i64 x.ek, .string ⟨x.en.toArray⟩, .int .i64 x.eA, .int .i64 x.eB, .int .i64 x.er, .int .i64 x.va] 78) h hbX ⟨hBS, hsl⟩ (fun k hk => by have : k = sb := hk; omega)
    have h2 : (boxE L0 sb #[.int .i64 x.kd, .int .i64 x.who, .int .i64 x.nn, .int .i64 x.k, .string ⟨x.n.toArray⟩, .int .i64 x.A, .int .i64 x.B, .int .i64 x.e0, .int .i64 x.e1, .int .i64 x.e2, .int .i64 x.ek, .string ⟨x.en.toArray⟩, .int .i64 x.eA, .int .i64 x.eB, .int .i64 x.er, .int .i64 x.va] 78 :: stE L0 kb p S bv ts R).Perm (stE L0 kb p S bv ts (boxE L0 sb #[.int .i64 x.kd, .int .i64 x.who, .int .i64 x.nn, .int .i64 x.k, .string ⟨x.n.toArray⟩, .int .i64 x.A, .int .i64 x.B, .int .i64 x.e0, .int .i64 x.e1, .int .i64 x.e2, .int .i64 x.ek, .string ⟨x.en.toArray⟩, .int .i64 x.eA, .int .i64 x.eB, .int .i64 x.er, .int .i64 x.va] 78 :: R)) := by
      have : stE L0 kb p S bv ts R = (boxE L0 p.pb (p.cs kb) 76 :: amE L0 p.ab p.mb p.L :: rmE L0 p.rb p.v p.M :: lsE L0 p :: roE L0 S :: boxE L0 kb #[bv] 87 :: rowE L0 100 3 bv ts.length (flatT ts) :: ts.flatMap (TD.ents L0)) ++ R := by simp [stE]
      rw [this]
      have e2 : stE L0 kb p S bv ts (boxE L0 sb #[.int .i64 x.kd, .int .i64 x.who, .int .i64 x.nn, .int .i64 x.k, .string ⟨x.n.toArray⟩, .int .i64 x.A, .int .i64 x.B, .int .i64 x.e0, .int .i64 x.e1, .int .i64 x.e2, .int .i64 x.ek, .string ⟨x.en.toArray⟩, .int .i64 x.eA, .int .i64 x.eB, .int .i64 x.er, .int .i64 x.va] 78 :: R) = (boxE L0 p.pb (p.cs kb) 76 :: amE L0 p.ab p.mb p.L :: rmE L0 p.rb p.v p.M :: lsE L0 p :: roE L0 S :: boxE L0 kb #[bv] 87 :: rowE L0 100 3 bv ts.length (flatT ts) :: ts.flatMap (TD.ents L0)) ++ (boxE L0 sb #[.int .i64 x.kd, .int .i64 x.who, .int .i64 x.nn, .int .i64 x.k, .string ⟨x.n.toArray⟩, .int .i64 x.A, .int .i64 x.B, .int .i64 x.e0, .int .i64 x.e1, .int .i64 x.e2, .int .i64 x.ek, .string ⟨x.en.toArray⟩, .int .i64 x.eA, .int .i64 x.eB, .int .i64 x.er, .int .i64 x.va] 78 :: R) := by simp [stE]
      rw [e2]
      exact List.perm_middle.symm
    exact h1.perm h2
  have HOK : Hid (p.Ok K S) := hk
  have HT : Hid (TOk K ts) := ht
  have c0 : X.cell? ⟨sb, 0, none⟩ = some (.int .i64 x.kd) := hBS.cell 0
  have HBS : Hid (Blk X sb #[.int .i64 x.kd, .int .i64 x.who, .int .i64 x.nn, .int .i64 x.k, .string ⟨x.n.toArray⟩, .int .i64 x.A, .int .i64 x.B, .int .i64 x.e0, .int .i64 x.e1, .int .i64 x.e2, .int .i64 x.ek, .string ⟨x.en.toArray⟩, .int .i64 x.eA, .int .i64 x.eB, .int .i64 x.er, .int .i64 x.va] 78) := hBS
  clear h hk hbX hBS hsl ht
  have e1 : (x.kd == 1) = false := by simpa using h1
  have e2 : (x.kd == 2) = false := by simpa using h2
  have e3 : (x.kd == 3) = false := by simpa using h3
  have e4 : (x.kd == 4) = false := by simpa using h4
  have HF : Hid (PdPost L0 kb K p S R w (.returned (.bool true)) X) := ⟨p, S, bv, ts, rfl, Held_dropR HX.out, HOK.out.mono (Nat.le_succ _) (fun c hc => hc), rfl, fun c hc => hc, HT.out.mono (Nat.le_succ _), HBX.out⟩
  clear h1 h2 h3 h4
  go_enter Try.func27, Try.ntmps27
  go_upto_region 1 with fail
  rw [← hX, ← hsb]
  clear hX hsb
  go_wp2_with fail
  go_ret
  exact HF.out
end Go.Proofs.Ytaiknlnjahjeiaa
