import Derived.Test.YtifgmefdlmjocaaTks
namespace Go.Proofs.Ytifgmefdlmjocaa
open Go.RowKit Go.PlainAid Go.MapKept
set_option linter.unusedVariables false
set_option linter.unusedSimpArgs false
def I64 (z : Int) : Prop := -9223372036854775808 ≤ z ∧ z ≤ 9223372036854775807
/-- A call that came in. -/
structure OpA where
  k : Int
  who : Int
  a : Int
  b : Int
  h : Int
  n : List UInt8
  d : Int
  u : Int
  la : Option Addr
  K : Nat
  cap : Nat
  es : List Ent
structure OpA.ok (o : OpA) : Prop where
  a : I64 o.a
  n : o.n.length ≤ 140737488355328
  d : I64 o.d
  u : I64 o.u
  len : o.es.length = o.K
  sz : (o.K + 2) * 64 ≤ 140737488355328
  sane : ∀ e ∈ o.es, e.sane
/-- A pair in memory. -/
structure PP (L0 pb hb mb rb M : Nat) (me : Int) (N : Nat) (dg kn bk v : Value) (L A : List Ent) (w : World) : Prop where
  box : Blk w pb #[.pointer (some ⟨hb, 0, none⟩), .pointer (some ⟨rb, 0, none⟩), dg, kn, bk] 68
  vw : Vw hb mb me N L w
  rv : RVw L0 rb me N v A w
  ag : AgC me M L A
  al : A.length ≤ 128 * M
/-- The other one: none, or a pair whose reference can be asked. -/
def Oth (ov : Value) (w : World) : Prop := ov = .pointer none ∨ ∃ (pb L0 rb M : Nat) (me N : Int) (v : Value) (L A : List Ent), ov = .pointer (some ⟨pb, 0, none⟩) ∧ (∃ y0 y2 y3 y4, Blk w pb #[y0, .pointer (some ⟨rb, 0, none⟩), y2, y3, y4] 68) ∧ RVw L0 rb me N v A w ∧ AgC me M L A ∧ A.length ≤ 90000
theorem Oth.more {ov : Value} {w w' : World} (h : Oth ov w) (hb : Below w.heap.size w w') : Oth ov w' := by
  rcases h with h | ⟨pb, L0, rb, M, me, N, v, L, A, h1, h2, h3, h4, h5⟩
  · exact Or.inl h
  · obtain ⟨y0, y2, y3, y4, hB⟩ := h2
    exact Or.inr ⟨pb, L0, rb, M, me, N, v, L, A, h1, ⟨y0, y2, y3, y4, hB.below hb hB.lt⟩, h3.more hb, h4, h5⟩
theorem dig_sane {me : Int} {M : Nat} {L A : List Ent} (h : AgC me M L A) : ∀ e ∈ rdigL me A, e.sane := fun e he => by
  unfold rdigL at he
  obtain ⟨n, hn, rfl⟩ := List.mem_map.1 he
  obtain ⟨x, hx, hr, hxn⟩ := (mem_nms me n A).1 hn
  have hs := (lastO_mem me n A).2 ⟨x, hx, hr, hxn⟩
  rw [← h.ok] at hs
  obtain ⟨y, hy⟩ := Option.isSome_iff_exists.1 hs
  have e1 : lastD me n A = y := by rw [← h.d]; unfold lookD; rw [hy]; rfl
  rw [e1]
  have hg := right_good (h.rt y (look_key hy).1)
  obtain ⟨g1, g2, g3, g4, g5, g6, g7⟩ := hg
  exact ⟨by omega, by omega, by omega, by omega⟩
theorem lastD_v {me : Int} {M : Nat} {L A : List Ent} (h : AgC me M L A) (n : List UInt8) : 0 ≤ (lastD me n A).v ∧ (lastD me n A).v ≤ (M : Int) := by
  rw [← h.d]
  unfold lookD
  cases hq : look me n L with
  | none => simp [zed]
  | some e =>
    obtain ⟨k1, k2, _⟩ := look_key hq
    have := h.ow e k1 k2
    have := (right_good (h.rt e k1)).v
    simp
    omega
theorem lastD_d {me : Int} {M : Nat} {L A : List Ent} (h : AgC me M L A) (n : List UInt8) (r : Int) : 0 ≤ (lastD r n A).d ∧ (lastD r n A).d ≤ 1099511627776 := by
  rw [← h.d]
  unfold lookD
  cases hq : look r n L with
  | none => simp [zed]
  | some e =>
    obtain ⟨k1, k2, _⟩ := look_key hq
    obtain ⟨g1, g2, g3, g4, g5, g6, g7⟩ := right_good (h.rt e k1)
    simp
    omega
theorem PPost.stay {L0 hb mb rb M : Nat} {me N : Int} {v : Value} {L A : List Ent} {w w' : World} (hV : Vw hb mb me N L w) (hR : RVw L0 rb me N v A w) (hag : AgC me M L A) (hA : A.length ≤ 128 * M) (hbl : Below w.heap.size w w') : PPost L0 hb mb rb me N v (M + 1) w w' :=
  ⟨v, L, A, hV.more hbl, hR.more hbl, hag.mono (Nat.le_succ _), by omega, Chg.ofBelow _ hbl, fun g hg => Or.inl hg⟩
theorem PPost.from {L0 hb mb rb M : Nat} {me N : Int} {v : Value} {w w1 w' : World} (h : PPost L0 hb mb rb me N v M w1 w') (hbl : Below w.heap.size w w1) : PPost L0 hb mb rb me N v M w w' := by
  obtain ⟨v', L', A', a, b, c, d, e, f⟩ := h
  exact ⟨v', L', A', a, b, c, d, (Chg.ofBelow _ hbl).trans e (fun _ _ h => h), fun g hg => (f g hg).imp id (fun h => Nat.le_trans hbl.size h)⟩
set_option maxRecDepth 100000 in
set_option maxHeartbeats 12800000 in
theorem played_tk {L0 pb hb mb rb M : Nat} {me : Int} {N : Nat} {dg kn bk v ov : Value} {L A : List Ent} (o : OpA) (w : World) (hp : PP L0 pb hb mb rb M me N dg kn bk v L A w) (hM : M ≤ 300) (hN : N ≤ 16) (ho : o.ok) (hf : FromV w o.la o.es) (hfb : 0 < o.K → ∀ b off, o.la = some ⟨b, off, none⟩ → b < w.heap.size ∧ b ≠ mb ∧ b ≠ rb ∧ v.ownBlock ≠ some b) (hov : Oth ov w) (hk3 : o.k ≠ 3) (hk5 : o.k ≠ 5) :
    Calls Try.prog 33 #[.pointer (some ⟨pb, 0, none⟩), .agg #[.int .i64 o.k, .int .i64 o.who, .int .i64 o.a, .int .i64 o.b, .int .i64 o.h, .string ⟨o.n.toArray⟩, .int .i64 o.d, .int .i64 o.u, .slice o.la o.K o.cap], ov] w fun e w' => e = .returned (.bool true) ∧ PPost L0 hb mb rb me N v (M + 1) w w' := by
  obtain ⟨ob, hob⟩ : ∃ ob, ob = w.heap.size := ⟨_, rfl⟩
  obtain ⟨X, hX⟩ : ∃ X, X = w.alloc (.cells #[.int .i64 o.k, .int .i64 o.who, .int .i64 o.a, .int .i64 o.b, .int .i64 o.h, .string ⟨o.n.toArray⟩, .int .i64 o.d, .int .i64 o.u, .slice o.la o.K o.cap] 92) := ⟨_, rfl⟩
  have hbX : Below w.heap.size w X := by rw [hX]; exact (Below.refl _ _).alloc (Nat.le_refl _) _
  have hBo : Blk X ob #[.int .i64 o.k, .int .i64 o.who, .int .i64 o.a, .int .i64 o.b, .int .i64 o.h, .string ⟨o.n.toArray⟩, .int .i64 o.d, .int .i64 o.u, .slice o.la o.K o.cap] 92 := by rw [hX, hob]; exact heap_alloc_new w _
  have HBX : Hid (Below w.heap.size w X) := hbX
  have HBO : Hid (Blk X ob #[.int .i64 o.k, .int .i64 o.who, .int .i64 o.a, .int .i64 o.b, .int .i64 o.h, .string ⟨o.n.toArray⟩, .int .i64 o.d, .int .i64 o.u, .slice o.la o.K o.cap] 92) := hBo
  have HPX : Hid (Blk X pb #[.pointer (some ⟨hb, 0, none⟩), .pointer (some ⟨rb, 0, none⟩), dg, kn, bk] 68) := hp.box.below hbX hp.box.lt
  have HVX : Hid (Vw hb mb me N L X) := hp.vw.more hbX
  have HRX : Hid (RVw L0 rb me N v A X) := hp.rv.more hbX
  have HAG : Hid (AgC me M L A) := hp.ag
  have HAL : Hid (A.length ≤ 128 * M) := hp.al
  have HLL : Hid (L.length ≤ 100000) := show L.length ≤ 100000 from by have := hp.ag.ll; have := hp.al; omega
  have HSTAY : Hid (∀ w', Below w.heap.size w w' → PPost L0 hb mb rb me N v (M + 1) w w') := fun w' h => PPost.stay hp.vw hp.rv hp.ag hp.al h
  have HOK : Hid o.ok := ho
  have HFX : Hid (FromV X o.la o.es) := hf.all hbX
  have HFB : Hid (0 < o.K → ∀ b off, o.la = some ⟨b, off, none⟩ → b < X.heap.size ∧ b ≠ mb ∧ b ≠ rb ∧ v.ownBlock ≠ some b) := fun h0 b off e => ⟨Nat.lt_of_lt_of_le (hfb h0 b off e).1 hbX.size, (hfb h0 b off e).2⟩
  have HOV : Hid (Oth ov X) := hov.more hbX
  have x0 : X.cell? ⟨ob, 0, none⟩ = some (.int .i64 o.k) := hBo.cell 0
  have x2 : X.cell? ⟨ob, 2, none⟩ = some (.int .i64 o.a) := hBo.cell 2
  have x5 : X.cell? ⟨ob, 5, none⟩ = some (.string ⟨o.n.toArray⟩) := hBo.cell 5
  have x8 : X.cell? ⟨ob, 8, none⟩ = some (.slice o.la o.K o.cap) := hBo.cell 8
  have HNW : Hid (ob = w.heap.size) := hob
  clear hp ho hf hfb hov hbX hBo
  by_cases c1 : o.k = 1
  · have hk1 : (o.k == 1) = true := by simpa using c1
    clear c1 hk3 hk5
    go_enter Try.func33, Try.ntmps33
    go_upto_region 1 with fail
    rw [← hX, ← hob]
    clear hX hob
    have HTL : Hid (∀ W, Vw hb mb me N L W → _) := fun W h => tell_own o.n o.a o.b o.d o.u o.h W h HLL.out ⟨HOK.out.n, HOK.out.a, HOK.out.d, HOK.out.u⟩ (fun e he hr => ⟨(right_good (HAG.out.rt e he)).v, by have := HAG.out.ow e he hr; omega⟩)
    have hlv := lastD_v HAG.out o.n
    have HRT : Hid (∀ W u, RVw L0 rb me N u A W → _) := fun W u h => rtell_any o.n o.a o.b o.d o.u o.h W h (by have := HAL.out; omega) ⟨HOK.out.n, HOK.out.a, HOK.out.d, HOK.out.u⟩ (by omega)
    obtain ⟨t1, t2, t3⟩ := HAG.out.tell o.n o.a o.b o.d o.u o.h
    rw [t1] at HTL
    have HT2 : Hid (AgC me (M + 1) (tellNext me L ⟨me, o.n, o.a, o.b, 1, o.d, o.u, o.h⟩) (rtellNext me A ⟨me, o.n, o.a, o.b, 1, o.d, o.u, o.h⟩)) := t2
    have HT3 : Hid ((rtellNext me A ⟨me, o.n, o.a, o.b, 1, o.d, o.u, o.h⟩).length ≤ A.length + 1) := t3
    generalize tellNext me L ⟨me, o.n, o.a, o.b, 1, o.d, o.u, o.h⟩ = L1 at *
    generalize rtellNext me A ⟨me, o.n, o.a, o.b, 1, o.d, o.u, o.h⟩ = A1 at *
    generalize rtellCode me A ⟨me, o.n, o.a, o.b, 1, o.d, o.u, o.h⟩ = cd at *
    clear t1 t2 t3 hlv x2 x5 x8
    have HS0 : Hid (PSt L0 pb hb mb rb me N #[.pointer (some ⟨hb, 0, none⟩), .pointer (some ⟨rb, 0, none⟩), dg, kn, bk] v v L A X X) := PSt.start HPX.out HVX.out HRX.out
    go_wp2_with fail
    rename_i K hK
    try rw [show ∀ a : Act, a.put none undef = a from fun _ => rfl]
    refine wp_region_mix (fun wq => wq.cell? ⟨pb, 0, none⟩ = some (.pointer (some ⟨hb, 0, none⟩)) ∧ Blk wq ob #[.int .i64 o.k, .int .i64 o.who, .int .i64 o.a, .int .i64 o.b, .int .i64 o.h, .string ⟨o.n.toArray⟩, .int .i64 o.d, .int .i64 o.u, .slice o.la o.K o.cap] 92) (fun i => i == 14 || i == 99) 99 (by kernel_rfl) rfl (by kernel_rfl) (by kernel_rfl) (by kernel_rfl) ?_
    refine withFrP (N := 109) rfl ?_
    intro f0 F0 hff
    have ee0 : f0 0 = Value.pointer (some ⟨pb, 0, none⟩) := hff 0
    have ee4 : f0 4 = Value.pointer (some ⟨ob, 0, none⟩) := hff 4
    clear hff
    have HCC : (fun wq => wq.cell? ⟨pb, 0, none⟩ = some (.pointer (some ⟨hb, 0, none⟩)) ∧ Blk wq ob #[.int .i64 o.k, .int .i64 o.who, .int .i64 o.a, .int .i64 o.b, .int .i64 o.h, .string ⟨o.n.toArray⟩, .int .i64 o.d, .int .i64 o.u, .slice o.la o.K o.cap] 92) (({ X with drawn := X.drawn + 1 } : World)) := ⟨HPX.out.cell 0, HBO.out⟩
    refine lyp F0 rfl HCC rfl (by omega) (wanted_none rfl) (v := Value.pointer (some ⟨pb, 0, none⟩)) (fun wr hwr => by simp only [execOp, (F0.eval 0 (by omega)).trans (show _ = Value.pointer (some ⟨pb, 0, none⟩) from by simp [upd, ee0, ee4])]; first | rfl | simp [go_sem]) fun F1 => ?_
    refine lyp F1 rfl HCC rfl (by omega) (wanted_none rfl) (v := Value.pointer (some ⟨pb, 0, none⟩)) (fun wr hwr => by simp only [execOp, (F1.eval 16 (by omega)).trans (show _ = Value.pointer (some ⟨pb, 0, none⟩) from by simp [upd, ee0, ee4])]; simp [go_sem]) fun F2 => ?_
    refine lyp F2 rfl HCC rfl (by omega) (wanted_none rfl) (v := Value.pointer (some ⟨pb, 0, none⟩)) (fun wr hwr => by simp only [execOp, (F2.eval 17 (by omega)).trans (show _ = Value.pointer (some ⟨pb, 0, none⟩) from by simp [upd, ee0, ee4])]; simp [go_sem]) fun F3 => ?_
    refine lyp F3 rfl HCC rfl (by omega) (wanted_none rfl) (v := Value.pointer (some ⟨hb, 0, none⟩)) (fun wr hwr => by simp only [execOp, (F3.eval 18 (by omega)).trans (show _ = Value.pointer (some ⟨pb, 0, none⟩) from by simp [upd, ee0, ee4])]; simp [go_sem, hwr.1]) fun F4 => ?_
    refine lyp F4 rfl HCC rfl (by omega) (wanted_none rfl) (v := Value.pointer (some ⟨ob, 5, none⟩)) (fun wr hwr => by simp only [execOp, (F4.eval 4 (by omega)).trans (show _ = Value.pointer (some ⟨ob, 0, none⟩) from by simp [upd, ee0, ee4])]; simp [go_sem]) fun F5 => ?_
    refine lyp F5 rfl HCC rfl (by omega) (wanted_none rfl) (v := Value.string ⟨o.n.toArray⟩) (fun wr hwr => by simp only [execOp, (F5.eval 20 (by omega)).trans (show _ = Value.pointer (some ⟨ob, 5, none⟩) from by simp [upd, ee0, ee4])]; simp [go_sem, show wr.cell? ⟨ob, 5, none⟩ = some (.string ⟨o.n.toArray⟩) from hwr.2.cell 5]) fun F6 => ?_
    refine lyp F6 rfl HCC rfl (by omega) (wanted_none rfl) (v := Value.pointer (some ⟨ob, 2, none⟩)) (fun wr hwr => by simp only [execOp, (F6.eval 4 (by omega)).trans (show _ = Value.pointer (some ⟨ob, 0, none⟩) from by simp [upd, ee0, ee4])]; simp [go_sem]) fun F7 => ?_
    refine lyp F7 rfl HCC rfl (by omega) (wanted_none rfl) (v := Value.int .i64 o.a) (fun wr hwr => by simp only [execOp, (F7.eval 22 (by omega)).trans (show _ = Value.pointer (some ⟨ob, 2, none⟩) from by simp [upd, ee0, ee4])]; simp [go_sem, show wr.cell? ⟨ob, 2, none⟩ = some (.int .i64 o.a) from hwr.2.cell 2]) fun F8 => ?_
    refine lyp F8 rfl HCC rfl (by omega) (wanted_none rfl) (v := Value.pointer (some ⟨ob, 3, none⟩)) (fun wr hwr => by simp only [execOp, (F8.eval 4 (by omega)).trans (show _ = Value.pointer (some ⟨ob, 0, none⟩) from by simp [upd, ee0, ee4])]; simp [go_sem]) fun F9 => ?_
    refine lyp F9 rfl HCC rfl (by omega) (wanted_none rfl) (v := Value.int .i64 o.b) (fun wr hwr => by simp only [execOp, (F9.eval 24 (by omega)).trans (show _ = Value.pointer (some ⟨ob, 3, none⟩) from by simp [upd, ee0, ee4])]; simp [go_sem, show wr.cell? ⟨ob, 3, none⟩ = some (.int .i64 o.b) from hwr.2.cell 3]) fun F10 => ?_
    refine lyp F10 rfl HCC rfl (by omega) (wanted_none rfl) (v := Value.pointer (some ⟨ob, 6, none⟩)) (fun wr hwr => by simp only [execOp, (F10.eval 4 (by omega)).trans (show _ = Value.pointer (some ⟨ob, 0, none⟩) from by simp [upd, ee0, ee4])]; simp [go_sem]) fun F11 => ?_
    refine lyp F11 rfl HCC rfl (by omega) (wanted_none rfl) (v := Value.agg #[.int .i64 o.d, .int .i64 o.u]) (fun wr hwr => by simp only [execOp, (F11.eval 26 (by omega)).trans (show _ = Value.pointer (some ⟨ob, 6, none⟩) from by simp [upd, ee0, ee4])]; simp [go_sem, show wr.cell? ⟨ob, 6, none⟩ = some (.int .i64 o.d) from hwr.2.cell 6, show wr.cell? ⟨ob, 7, none⟩ = some (.int .i64 o.u) from hwr.2.cell 7]) fun F12 => ?_
    refine lyp F12 rfl HCC rfl (by omega) (wanted_none rfl) (v := Value.pointer (some ⟨ob, 4, none⟩)) (fun wr hwr => by simp only [execOp, (F12.eval 4 (by omega)).trans (show _ = Value.pointer (some ⟨ob, 0, none⟩) from by simp [upd, ee0, ee4])]; simp [go_sem]) fun F13 => ?_
    refine lyp F13 rfl HCC rfl (by omega) (wanted_none rfl) (v := Value.int .i64 o.h) (fun wr hwr => by simp only [execOp, (F13.eval 28 (by omega)).trans (show _ = Value.pointer (some ⟨ob, 4, none⟩) from by simp [upd, ee0, ee4])]; simp [go_sem, show wr.cell? ⟨ob, 4, none⟩ = some (.int .i64 o.h) from hwr.2.cell 4]) fun F14 => ?_
    refine lcp F14 rfl HCC rfl (by omega) (wanted_none rfl) (g := 22) (args := #[Value.pointer (some ⟨hb, 0, none⟩), Value.string ⟨o.n.toArray⟩, Value.int .i64 o.a, Value.int .i64 o.b, Value.agg #[.int .i64 o.d, .int .i64 o.u], Value.int .i64 o.h]) (by simp only [execOp, resolve, invoke, List.map_toArray, List.map_cons, List.map_nil, (F14.eval 19 (by omega)).trans (show _ = Value.pointer (some ⟨hb, 0, none⟩) from by simp [upd, ee0, ee4]), (F14.eval 21 (by omega)).trans (show _ = Value.string ⟨o.n.toArray⟩ from by simp [upd, ee0, ee4]), (F14.eval 23 (by omega)).trans (show _ = Value.int .i64 o.a from by simp [upd, ee0, ee4]), (F14.eval 25 (by omega)).trans (show _ = Value.int .i64 o.b from by simp [upd, ee0, ee4]), (F14.eval 27 (by omega)).trans (show _ = Value.agg #[.int .i64 o.d, .int .i64 o.u] from by simp [upd, ee0, ee4]), (F14.eval 29 (by omega)).trans (show _ = Value.int .i64 o.h from by simp [upd, ee0, ee4])]; simp [go_sem, Act.eval]) (HTL.out (({ X with drawn := X.drawn + 1 } : World)) (HVX.out.more (Below.drew (Below.refl X.heap.size X)))) ?_
    rintro e9 w2 ⟨rfl, hV2, hc2⟩
    refine ⟨_, rfl, fun F15 => ?_⟩
    have HC2 : (fun wq => wq.cell? ⟨pb, 0, none⟩ = some (.pointer (some ⟨hb, 0, none⟩)) ∧ Blk wq ob #[.int .i64 o.k, .int .i64 o.who, .int .i64 o.a, .int .i64 o.b, .int .i64 o.h, .string ⟨o.n.toArray⟩, .int .i64 o.d, .int .i64 o.u, .slice o.la o.K o.cap] 92) w2 := ⟨(hc2.blk (show Blk (({ X with drawn := X.drawn + 1 } : World)) pb _ 68 from HPX.out) (HVX.out.map.ne_b HPX.out)).cell 0, hc2.blk (show Blk (({ X with drawn := X.drawn + 1 } : World)) ob _ 92 from HBO.out) (HVX.out.map.ne_b HBO.out)⟩
    refine lyp F15 rfl HC2 rfl (by omega) (wanted_none rfl) (v := Value.int .i64 cd) (fun wr hwr => by simp only [execOp, (F15.eval 30 (by omega)).trans (show _ = Value.int .i64 cd from by simp [upd, ee0, ee4])]; first | rfl | simp [go_sem]) fun F16 => ?_
    refine ⟨fun _ => HC2, ?_⟩
    refine hK _ _ ?_
    clear F0 F1 F2 F3 F4 F5 F6 F7 F8 F9 F10 F11 F12 F13 F14 F15 F16 ee0 ee4 HCC HC2
    simp only [Act.put, List.setIfInBounds_toArray, List.set_cons_succ, List.set_cons_zero]
    have HS2 : Hid (PSt L0 pb hb mb rb me N #[.pointer (some ⟨hb, 0, none⟩), .pointer (some ⟨rb, 0, none⟩), dg, kn, bk] v v L1 A X w2) := (HS0.out.more (show Below X.heap.size X (({ X with drawn := X.drawn + 1 } : World)) from Below.drew (Below.refl _ _))).take hV2 hc2
    have HB2 : Hid (Blk w2 ob #[.int .i64 o.k, .int .i64 o.who, .int .i64 o.a, .int .i64 o.b, .int .i64 o.h, .string ⟨o.n.toArray⟩, .int .i64 o.d, .int .i64 o.u, .slice o.la o.K o.cap] 92) := hc2.blk (show Blk (({ X with drawn := X.drawn + 1 } : World)) ob #[.int .i64 o.k, .int .i64 o.who, .int .i64 o.a, .int .i64 o.b, .int .i64 o.h, .string ⟨o.n.toArray⟩, .int .i64 o.d, .int .i64 o.u, .slice o.la o.K o.cap] 92 from HBO.out) (HVX.out.map.ne_b HBO.out)
    clear hV2 hc2 HTL HS0
    go_wp2_with fail
    rename_i K hK
    try rw [show ∀ a : Act, a.put none undef = a from fun _ => rfl]
    refine wp_region_mix (fun wq => wq.cell? ⟨pb, 1, none⟩ = some (.pointer (some ⟨rb, 0, none⟩)) ∧ Blk wq ob #[.int .i64 o.k, .int .i64 o.who, .int .i64 o.a, .int .i64 o.b, .int .i64 o.h, .string ⟨o.n.toArray⟩, .int .i64 o.d, .int .i64 o.u, .slice o.la o.K o.cap] 92) (fun i => i == 15 || i == 99) 99 (by kernel_rfl) rfl (by kernel_rfl) (by kernel_rfl) (by kernel_rfl) ?_
    refine withFrP (N := 109) rfl ?_
    intro f0 F0 hff
    have ee0 : f0 0 = Value.pointer (some ⟨pb, 0, none⟩) := hff 0
    have ee4 : f0 4 = Value.pointer (some ⟨ob, 0, none⟩) := hff 4
    have ee7 : f0 7 = Value.int .i64 cd := hff 7
    clear hff
    have HCC : (fun wq => wq.cell? ⟨pb, 1, none⟩ = some (.pointer (some ⟨rb, 0, none⟩)) ∧ Blk wq ob #[.int .i64 o.k, .int .i64 o.who, .int .i64 o.a, .int .i64 o.b, .int .i64 o.h, .string ⟨o.n.toArray⟩, .int .i64 o.d, .int .i64 o.u, .slice o.la o.K o.cap] 92) (({ w2 with drawn := w2.drawn + 1 } : World)) := ⟨HS2.out.box.cell 1, HB2.out⟩
    refine lyp F0 rfl HCC rfl (by omega) (wanted_none rfl) (v := Value.int .i64 cd) (fun wr hwr => by simp only [execOp, (F0.eval 7 (by omega)).trans (show _ = Value.int .i64 cd from by simp [upd, ee0, ee4, ee7])]; first | rfl | simp [go_sem]) fun F1 => ?_
    refine lyp F1 rfl HCC rfl (by omega) (wanted_none rfl) (v := Value.pointer (some ⟨pb, 0, none⟩)) (fun wr hwr => by simp only [execOp, (F1.eval 0 (by omega)).trans (show _ = Value.pointer (some ⟨pb, 0, none⟩) from by simp [upd, ee0, ee4, ee7])]; first | rfl | simp [go_sem]) fun F2 => ?_
    refine lyp F2 rfl HCC rfl (by omega) (wanted_none rfl) (v := Value.pointer (some ⟨pb, 0, none⟩)) (fun wr hwr => by simp only [execOp, (F2.eval 32 (by omega)).trans (show _ = Value.pointer (some ⟨pb, 0, none⟩) from by simp [upd, ee0, ee4, ee7])]; simp [go_sem]) fun F3 => ?_
    refine lyp F3 rfl HCC rfl (by omega) (wanted_none rfl) (v := Value.pointer (some ⟨pb, 1, none⟩)) (fun wr hwr => by simp only [execOp, (F3.eval 33 (by omega)).trans (show _ = Value.pointer (some ⟨pb, 0, none⟩) from by simp [upd, ee0, ee4, ee7])]; simp [go_sem]) fun F4 => ?_
    refine lyp F4 rfl HCC rfl (by omega) (wanted_none rfl) (v := Value.pointer (some ⟨rb, 0, none⟩)) (fun wr hwr => by simp only [execOp, (F4.eval 34 (by omega)).trans (show _ = Value.pointer (some ⟨pb, 1, none⟩) from by simp [upd, ee0, ee4, ee7])]; simp [go_sem, hwr.1]) fun F5 => ?_
    refine lyp F5 rfl HCC rfl (by omega) (wanted_none rfl) (v := Value.pointer (some ⟨ob, 5, none⟩)) (fun wr hwr => by simp only [execOp, (F5.eval 4 (by omega)).trans (show _ = Value.pointer (some ⟨ob, 0, none⟩) from by simp [upd, ee0, ee4, ee7])]; simp [go_sem]) fun F6 => ?_
    refine lyp F6 rfl HCC rfl (by omega) (wanted_none rfl) (v := Value.string ⟨o.n.toArray⟩) (fun wr hwr => by simp only [execOp, (F6.eval 36 (by omega)).trans (show _ = Value.pointer (some ⟨ob, 5, none⟩) from by simp [upd, ee0, ee4, ee7])]; simp [go_sem, show wr.cell? ⟨ob, 5, none⟩ = some (.string ⟨o.n.toArray⟩) from hwr.2.cell 5]) fun F7 => ?_
    refine lyp F7 rfl HCC rfl (by omega) (wanted_none rfl) (v := Value.pointer (some ⟨ob, 2, none⟩)) (fun wr hwr => by simp only [execOp, (F7.eval 4 (by omega)).trans (show _ = Value.pointer (some ⟨ob, 0, none⟩) from by simp [upd, ee0, ee4, ee7])]; simp [go_sem]) fun F8 => ?_
    refine lyp F8 rfl HCC rfl (by omega) (wanted_none rfl) (v := Value.int .i64 o.a) (fun wr hwr => by simp only [execOp, (F8.eval 38 (by omega)).trans (show _ = Value.pointer (some ⟨ob, 2, none⟩) from by simp [upd, ee0, ee4, ee7])]; simp [go_sem, show wr.cell? ⟨ob, 2, none⟩ = some (.int .i64 o.a) from hwr.2.cell 2]) fun F9 => ?_
    refine lyp F9 rfl HCC rfl (by omega) (wanted_none rfl) (v := Value.pointer (some ⟨ob, 3, none⟩)) (fun wr hwr => by simp only [execOp, (F9.eval 4 (by omega)).trans (show _ = Value.pointer (some ⟨ob, 0, none⟩) from by simp [upd, ee0, ee4, ee7])]; simp [go_sem]) fun F10 => ?_
    refine lyp F10 rfl HCC rfl (by omega) (wanted_none rfl) (v := Value.int .i64 o.b) (fun wr hwr => by simp only [execOp, (F10.eval 40 (by omega)).trans (show _ = Value.pointer (some ⟨ob, 3, none⟩) from by simp [upd, ee0, ee4, ee7])]; simp [go_sem, show wr.cell? ⟨ob, 3, none⟩ = some (.int .i64 o.b) from hwr.2.cell 3]) fun F11 => ?_
    refine lyp F11 rfl HCC rfl (by omega) (wanted_none rfl) (v := Value.pointer (some ⟨ob, 6, none⟩)) (fun wr hwr => by simp only [execOp, (F11.eval 4 (by omega)).trans (show _ = Value.pointer (some ⟨ob, 0, none⟩) from by simp [upd, ee0, ee4, ee7])]; simp [go_sem]) fun F12 => ?_
    refine lyp F12 rfl HCC rfl (by omega) (wanted_none rfl) (v := Value.agg #[.int .i64 o.d, .int .i64 o.u]) (fun wr hwr => by simp only [execOp, (F12.eval 42 (by omega)).trans (show _ = Value.pointer (some ⟨ob, 6, none⟩) from by simp [upd, ee0, ee4, ee7])]; simp [go_sem, show wr.cell? ⟨ob, 6, none⟩ = some (.int .i64 o.d) from hwr.2.cell 6, show wr.cell? ⟨ob, 7, none⟩ = some (.int .i64 o.u) from hwr.2.cell 7]) fun F13 => ?_
    refine lyp F13 rfl HCC rfl (by omega) (wanted_none rfl) (v := Value.pointer (some ⟨ob, 4, none⟩)) (fun wr hwr => by simp only [execOp, (F13.eval 4 (by omega)).trans (show _ = Value.pointer (some ⟨ob, 0, none⟩) from by simp [upd, ee0, ee4, ee7])]; simp [go_sem]) fun F14 => ?_
    refine lyp F14 rfl HCC rfl (by omega) (wanted_none rfl) (v := Value.int .i64 o.h) (fun wr hwr => by simp only [execOp, (F14.eval 44 (by omega)).trans (show _ = Value.pointer (some ⟨ob, 4, none⟩) from by simp [upd, ee0, ee4, ee7])]; simp [go_sem, show wr.cell? ⟨ob, 4, none⟩ = some (.int .i64 o.h) from hwr.2.cell 4]) fun F15 => ?_
    refine lcp F15 rfl HCC rfl (by omega) (wanted_none rfl) (g := 41) (args := #[Value.pointer (some ⟨rb, 0, none⟩), Value.string ⟨o.n.toArray⟩, Value.int .i64 o.a, Value.int .i64 o.b, Value.agg #[.int .i64 o.d, .int .i64 o.u], Value.int .i64 o.h]) (by simp only [execOp, resolve, invoke, List.map_toArray, List.map_cons, List.map_nil, (F15.eval 35 (by omega)).trans (show _ = Value.pointer (some ⟨rb, 0, none⟩) from by simp [upd, ee0, ee4, ee7]), (F15.eval 37 (by omega)).trans (show _ = Value.string ⟨o.n.toArray⟩ from by simp [upd, ee0, ee4, ee7]), (F15.eval 39 (by omega)).trans (show _ = Value.int .i64 o.a from by simp [upd, ee0, ee4, ee7]), (F15.eval 41 (by omega)).trans (show _ = Value.int .i64 o.b from by simp [upd, ee0, ee4, ee7]), (F15.eval 43 (by omega)).trans (show _ = Value.agg #[.int .i64 o.d, .int .i64 o.u] from by simp [upd, ee0, ee4, ee7]), (F15.eval 45 (by omega)).trans (show _ = Value.int .i64 o.h from by simp [upd, ee0, ee4, ee7])]; simp [go_sem, Act.eval]) (HRT.out (({ w2 with drawn := w2.drawn + 1 } : World)) v (HS2.out.rv.keep rfl (fun _ _ => rfl))) ?_
    rintro e9 w4 ⟨rfl, hP4⟩
    refine ⟨_, rfl, fun F16 => ?_⟩
    have HC2 : (fun wq => wq.cell? ⟨pb, 1, none⟩ = some (.pointer (some ⟨rb, 0, none⟩)) ∧ Blk wq ob #[.int .i64 o.k, .int .i64 o.who, .int .i64 o.a, .int .i64 o.b, .int .i64 o.h, .string ⟨o.n.toArray⟩, .int .i64 o.d, .int .i64 o.u, .slice o.la o.K o.cap] 92) w4 := (by have hh := hP4.chg; exact ⟨(hh.blk (show Blk (({ w2 with drawn := w2.drawn + 1 } : World)) pb _ 68 from HS2.out.box) (fun e => e.elim (fun e => Blk.ne_t HS2.out.box HS2.out.rv.blk (by decide) e) (fun e => HS2.out.rv.own_ne HS2.out.box (by decide) e))).cell 1, hh.blk (show Blk (({ w2 with drawn := w2.drawn + 1 } : World)) ob _ 92 from HB2.out) (fun e => e.elim (fun e => Blk.ne_t HB2.out HS2.out.rv.blk (by decide) e) (fun e => HS2.out.rv.own_ne HB2.out (by decide) e))⟩)
    refine lyp F16 rfl HC2 rfl (by omega) (wanted_none rfl) (v := Value.bool true) (fun wr hwr => by simp only [execOp, (F16.eval 31 (by omega)).trans (show _ = Value.int .i64 cd from by simp [upd, ee0, ee4, ee7]), (F16.eval 46 (by omega)).trans (show _ = Value.int .i64 cd from by simp [upd, ee0, ee4, ee7])]; simp [go_sem, Act.eval]) fun F17 => ?_
    refine lyp F17 rfl HC2 rfl (by omega) (wanted_none rfl) (v := Value.bool true) (fun wr hwr => by simp only [execOp, (F17.eval 47 (by omega)).trans (show _ = Value.bool true from by simp [upd, ee0, ee4, ee7])]; first | rfl | simp [go_sem]) fun F18 => ?_
    refine ⟨fun _ => HC2, ?_⟩
    refine hK _ _ ?_
    clear F0 F1 F2 F3 F4 F5 F6 F7 F8 F9 F10 F11 F12 F13 F14 F15 F16 F17 F18 ee0 ee4 ee7 HCC HC2
    simp only [Act.put, List.setIfInBounds_toArray, List.set_cons_succ, List.set_cons_zero]
    obtain ⟨v4, hs4⟩ := (HS2.out.more (show Below w2.heap.size w2 (({ w2 with drawn := w2.drawn + 1 } : World)) from Below.drew (Below.refl _ _))).rtake hP4
    have HS4 : Hid (PSt L0 pb hb mb rb me N #[.pointer (some ⟨hb, 0, none⟩), .pointer (some ⟨rb, 0, none⟩), dg, kn, bk] v v4 L1 A1 X w4) := hs4
    clear hP4 hs4 HS2 HRT
    go_wp2_with fail
    go_ret
    refine ⟨rfl, PPost.from ⟨v4, L1, A1, HS4.out.vw, HS4.out.rv, HT2.out, by have := HT3.out; have := HAL.out; omega, HS4.out.chg, HS4.out.at'⟩ HBX.out⟩
  have hk1 : (o.k == 1) = false := by simpa using c1
  by_cases c2 : o.k = 2
  · have hk2 : (o.k == 2) = true := by simpa using c2
    clear c1 c2 hk3 hk5
    have HTK : Hid _ := takes_any o.a o.la o.K o.cap o.es X HPX.out HVX.out HRX.out HAG.out HAL.out hM HOK.out.len HOK.out.sz HFX.out HOK.out.sane HFB.out
    go_enter Try.func33, Try.ntmps33
    go_upto_region 1 with fail
    rw [← hX, ← hob]
    clear hX hob
    go_wp2_with fail
    refine Calls.mono HTK.out ?_
    rintro e9 w2 ⟨rfl, hP2⟩
    have HPO : Hid (PPost L0 hb mb rb me N v (M + 1) w w2) := PPost.from hP2 HBX.out
    clear hP2 HTK x0 x2 x5 x8
    go_wp2_with fail
    go_ret
    exact ⟨rfl, HPO.out⟩
  have hk2 : (o.k == 2) = false := by simpa using c2
  have hk3b : (o.k == 3) = false := by simpa using hk3
  have hk5b : (o.k == 5) = false := by simpa using hk5
  by_cases c4 : o.k = 4
  · have hk4 : (o.k == 4) = true := by simpa using c4
    clear c1 c2 c4 hk3 hk5 x2 x8
    have HA1 : Hid (∀ W, Vw hb mb me N L W → Calls Try.prog 15 #[.pointer (some ⟨hb, 0, none⟩), .string ⟨o.n.toArray⟩] W fun e w' => e = .returned (.tuple #[.int .i64 (raboutS o.n A N), .bool (raboutK o.n A N)]) ∧ Below W.heap.size W w') := fun W h => by
      have := about_any o.n W h hN (fun e he => by obtain ⟨g1, g2, g3, g4, g5, g6, g7⟩ := right_good (HAG.out.rt e he); omega)
      rwa [(HAG.out.about o.n N).1, (HAG.out.about o.n N).2] at this
    have HA2 : Hid (∀ W, RVw L0 rb me N v A W → Calls Try.prog 44 #[.pointer (some ⟨rb, 0, none⟩), .string ⟨o.n.toArray⟩] W fun e w' => e = .returned (.tuple #[.int .i64 (raboutS o.n A N), .bool (raboutK o.n A N)]) ∧ Below W.heap.size W w') := fun W h => rabout_any o.n W h hN (by have := HAL.out; omega) (fun k => lastD_d HAG.out o.n k)
    generalize raboutS o.n A N = s0 at *
    generalize raboutK o.n A N = b0 at *
    go_enter Try.func33, Try.ntmps33
    go_upto_region 1 with fail
    rw [← hX, ← hob]
    clear hX hob
    go_wp2_with fail
    rename_i K hK
    try rw [show ∀ a : Act, a.put none undef = a from fun _ => rfl]
    refine wp_region_mix (fun wq => wq.cell? ⟨pb, 0, none⟩ = some (.pointer (some ⟨hb, 0, none⟩)) ∧ Blk wq ob #[.int .i64 o.k, .int .i64 o.who, .int .i64 o.a, .int .i64 o.b, .int .i64 o.h, .string ⟨o.n.toArray⟩, .int .i64 o.d, .int .i64 o.u, .slice o.la o.K o.cap] 92) (fun i => i == 6 || i == 99) 99 (by kernel_rfl) rfl (by kernel_rfl) (by kernel_rfl) (by kernel_rfl) ?_
    refine withFrP (N := 109) rfl ?_
    intro f0 F0 hff
    have ee0 : f0 0 = Value.pointer (some ⟨pb, 0, none⟩) := hff 0
    have ee4 : f0 4 = Value.pointer (some ⟨ob, 0, none⟩) := hff 4
    clear hff
    have HCC : (fun wq => wq.cell? ⟨pb, 0, none⟩ = some (.pointer (some ⟨hb, 0, none⟩)) ∧ Blk wq ob #[.int .i64 o.k, .int .i64 o.who, .int .i64 o.a, .int .i64 o.b, .int .i64 o.h, .string ⟨o.n.toArray⟩, .int .i64 o.d, .int .i64 o.u, .slice o.la o.K o.cap] 92) (({ X with drawn := X.drawn + 1 } : World)) := ⟨HPX.out.cell 0, HBO.out⟩
    refine lyp F0 rfl HCC rfl (by omega) (wanted_none rfl) (v := Value.pointer (some ⟨pb, 0, none⟩)) (fun wr hwr => by simp only [execOp, (F0.eval 0 (by omega)).trans (show _ = Value.pointer (some ⟨pb, 0, none⟩) from by simp [upd, ee0, ee4])]; first | rfl | simp [go_sem]) fun F1 => ?_
    refine lyp F1 rfl HCC rfl (by omega) (wanted_none rfl) (v := Value.pointer (some ⟨pb, 0, none⟩)) (fun wr hwr => by simp only [execOp, (F1.eval 63 (by omega)).trans (show _ = Value.pointer (some ⟨pb, 0, none⟩) from by simp [upd, ee0, ee4])]; simp [go_sem]) fun F2 => ?_
    refine lyp F2 rfl HCC rfl (by omega) (wanted_none rfl) (v := Value.pointer (some ⟨pb, 0, none⟩)) (fun wr hwr => by simp only [execOp, (F2.eval 64 (by omega)).trans (show _ = Value.pointer (some ⟨pb, 0, none⟩) from by simp [upd, ee0, ee4])]; simp [go_sem]) fun F3 => ?_
    refine lyp F3 rfl HCC rfl (by omega) (wanted_none rfl) (v := Value.pointer (some ⟨hb, 0, none⟩)) (fun wr hwr => by simp only [execOp, (F3.eval 65 (by omega)).trans (show _ = Value.pointer (some ⟨pb, 0, none⟩) from by simp [upd, ee0, ee4])]; simp [go_sem, hwr.1]) fun F4 => ?_
    refine lyp F4 rfl HCC rfl (by omega) (wanted_none rfl) (v := Value.pointer (some ⟨ob, 5, none⟩)) (fun wr hwr => by simp only [execOp, (F4.eval 4 (by omega)).trans (show _ = Value.pointer (some ⟨ob, 0, none⟩) from by simp [upd, ee0, ee4])]; simp [go_sem]) fun F5 => ?_
    refine lyp F5 rfl HCC rfl (by omega) (wanted_none rfl) (v := Value.string ⟨o.n.toArray⟩) (fun wr hwr => by simp only [execOp, (F5.eval 67 (by omega)).trans (show _ = Value.pointer (some ⟨ob, 5, none⟩) from by simp [upd, ee0, ee4])]; simp [go_sem, show wr.cell? ⟨ob, 5, none⟩ = some (.string ⟨o.n.toArray⟩) from hwr.2.cell 5]) fun F6 => ?_
    refine lcp F6 rfl HCC rfl (by omega) (wanted_none rfl) (g := 15) (args := #[Value.pointer (some ⟨hb, 0, none⟩), Value.string ⟨o.n.toArray⟩]) (by simp only [execOp, resolve, invoke, List.map_toArray, List.map_cons, List.map_nil, (F6.eval 66 (by omega)).trans (show _ = Value.pointer (some ⟨hb, 0, none⟩) from by simp [upd, ee0, ee4]), (F6.eval 68 (by omega)).trans (show _ = Value.string ⟨o.n.toArray⟩ from by simp [upd, ee0, ee4])]; simp [go_sem, Act.eval]) (HA1.out (({ X with drawn := X.drawn + 1 } : World)) (HVX.out.more (Below.drew (Below.refl X.heap.size X)))) ?_
    rintro e9 w2 ⟨rfl, hb2⟩
    refine ⟨_, rfl, fun F7 => ?_⟩
    have HC2 : (fun wq => wq.cell? ⟨pb, 0, none⟩ = some (.pointer (some ⟨hb, 0, none⟩)) ∧ Blk wq ob #[.int .i64 o.k, .int .i64 o.who, .int .i64 o.a, .int .i64 o.b, .int .i64 o.h, .string ⟨o.n.toArray⟩, .int .i64 o.d, .int .i64 o.u, .slice o.la o.K o.cap] 92) w2 := ⟨cell_below hb2 HCC.1, HCC.2.below hb2 HCC.2.lt⟩
    refine lyp F7 rfl HC2 rfl (by omega) (wanted_none rfl) (v := Value.tuple #[.int .i64 s0, .bool b0]) (fun wr hwr => by simp only [execOp, (F7.eval 69 (by omega)).trans (show _ = Value.tuple #[.int .i64 s0, .bool b0] from by simp [upd, ee0, ee4])]; first | rfl | simp [go_sem]) fun F8 => ?_
    refine lyp F8 rfl HC2 rfl (by omega) (wanted_none rfl) (v := Value.int .i64 s0) (fun wr hwr => by simp only [execOp, (F8.eval 62 (by omega)).trans (show _ = Value.tuple #[.int .i64 s0, .bool b0] from by simp [upd, ee0, ee4])]; simp [go_sem]) fun F9 => ?_
    refine lyp F9 rfl HC2 rfl (by omega) (wanted_none rfl) (v := Value.bool b0) (fun wr hwr => by simp only [execOp, (F9.eval 62 (by omega)).trans (show _ = Value.tuple #[.int .i64 s0, .bool b0] from by simp [upd, ee0, ee4])]; simp [go_sem]) fun F10 => ?_
    refine lyp F10 rfl HC2 rfl (by omega) (wanted_none rfl) (v := Value.int .i64 s0) (fun wr hwr => by simp only [execOp, (F10.eval 70 (by omega)).trans (show _ = Value.int .i64 s0 from by simp [upd, ee0, ee4])]; first | rfl | simp [go_sem]) fun F11 => ?_
    refine lyp F11 rfl HC2 rfl (by omega) (wanted_none rfl) (v := Value.bool b0) (fun wr hwr => by simp only [execOp, (F11.eval 71 (by omega)).trans (show _ = Value.bool b0 from by simp [upd, ee0, ee4])]; first | rfl | simp [go_sem]) fun F12 => ?_
    refine ⟨fun _ => HC2, ?_⟩
    refine hK _ _ ?_
    clear F0 F1 F2 F3 F4 F5 F6 F7 F8 F9 F10 F11 F12 ee0 ee4 HCC HC2
    simp only [Act.put, List.setIfInBounds_toArray, List.set_cons_succ, List.set_cons_zero]
    have HB2 : Hid (Below X.heap.size X w2) := (show Below X.heap.size X (({ X with drawn := X.drawn + 1 } : World)) from Below.drew (Below.refl _ _)).trans hb2
    clear hb2 HA1
    go_wp2_with fail
    rename_i K hK
    try rw [show ∀ a : Act, a.put none undef = a from fun _ => rfl]
    refine wp_region_mix (fun wq => wq.cell? ⟨pb, 1, none⟩ = some (.pointer (some ⟨rb, 0, none⟩)) ∧ Blk wq ob #[.int .i64 o.k, .int .i64 o.who, .int .i64 o.a, .int .i64 o.b, .int .i64 o.h, .string ⟨o.n.toArray⟩, .int .i64 o.d, .int .i64 o.u, .slice o.la o.K o.cap] 92) (fun i => i == 6 || i == 99) 99 (by kernel_rfl) rfl (by kernel_rfl) (by kernel_rfl) (by kernel_rfl) ?_
    refine withFrP (N := 109) rfl ?_
    intro f0 F0 hff
    have ee0 : f0 0 = Value.pointer (some ⟨pb, 0, none⟩) := hff 0
    have ee4 : f0 4 = Value.pointer (some ⟨ob, 0, none⟩) := hff 4
    clear hff
    have HCC : (fun wq => wq.cell? ⟨pb, 1, none⟩ = some (.pointer (some ⟨rb, 0, none⟩)) ∧ Blk wq ob #[.int .i64 o.k, .int .i64 o.who, .int .i64 o.a, .int .i64 o.b, .int .i64 o.h, .string ⟨o.n.toArray⟩, .int .i64 o.d, .int .i64 o.u, .slice o.la o.K o.cap] 92) (({ w2 with drawn := w2.drawn + 1 } : World)) := ⟨(HPX.out.below HB2.out HPX.out.lt).cell 1, show Blk w2 ob #[.int .i64 o.k, .int .i64 o.who, .int .i64 o.a, .int .i64 o.b, .int .i64 o.h, .string ⟨o.n.toArray⟩, .int .i64 o.d, .int .i64 o.u, .slice o.la o.K o.cap] 92 from HBO.out.below HB2.out HBO.out.lt⟩
    refine lyp F0 rfl HCC rfl (by omega) (wanted_none rfl) (v := Value.pointer (some ⟨pb, 0, none⟩)) (fun wr hwr => by simp only [execOp, (F0.eval 0 (by omega)).trans (show _ = Value.pointer (some ⟨pb, 0, none⟩) from by simp [upd, ee0, ee4])]; first | rfl | simp [go_sem]) fun F1 => ?_
    refine lyp F1 rfl HCC rfl (by omega) (wanted_none rfl) (v := Value.pointer (some ⟨pb, 0, none⟩)) (fun wr hwr => by simp only [execOp, (F1.eval 73 (by omega)).trans (show _ = Value.pointer (some ⟨pb, 0, none⟩) from by simp [upd, ee0, ee4])]; simp [go_sem]) fun F2 => ?_
    refine lyp F2 rfl HCC rfl (by omega) (wanted_none rfl) (v := Value.pointer (some ⟨pb, 1, none⟩)) (fun wr hwr => by simp only [execOp, (F2.eval 74 (by omega)).trans (show _ = Value.pointer (some ⟨pb, 0, none⟩) from by simp [upd, ee0, ee4])]; simp [go_sem]) fun F3 => ?_
    refine lyp F3 rfl HCC rfl (by omega) (wanted_none rfl) (v := Value.pointer (some ⟨rb, 0, none⟩)) (fun wr hwr => by simp only [execOp, (F3.eval 75 (by omega)).trans (show _ = Value.pointer (some ⟨pb, 1, none⟩) from by simp [upd, ee0, ee4])]; simp [go_sem, hwr.1]) fun F4 => ?_
    refine lyp F4 rfl HCC rfl (by omega) (wanted_none rfl) (v := Value.pointer (some ⟨ob, 5, none⟩)) (fun wr hwr => by simp only [execOp, (F4.eval 4 (by omega)).trans (show _ = Value.pointer (some ⟨ob, 0, none⟩) from by simp [upd, ee0, ee4])]; simp [go_sem]) fun F5 => ?_
    refine lyp F5 rfl HCC rfl (by omega) (wanted_none rfl) (v := Value.string ⟨o.n.toArray⟩) (fun wr hwr => by simp only [execOp, (F5.eval 77 (by omega)).trans (show _ = Value.pointer (some ⟨ob, 5, none⟩) from by simp [upd, ee0, ee4])]; simp [go_sem, show wr.cell? ⟨ob, 5, none⟩ = some (.string ⟨o.n.toArray⟩) from hwr.2.cell 5]) fun F6 => ?_
    refine lcp F6 rfl HCC rfl (by omega) (wanted_none rfl) (g := 44) (args := #[Value.pointer (some ⟨rb, 0, none⟩), Value.string ⟨o.n.toArray⟩]) (by simp only [execOp, resolve, invoke, List.map_toArray, List.map_cons, List.map_nil, (F6.eval 76 (by omega)).trans (show _ = Value.pointer (some ⟨rb, 0, none⟩) from by simp [upd, ee0, ee4]), (F6.eval 78 (by omega)).trans (show _ = Value.string ⟨o.n.toArray⟩ from by simp [upd, ee0, ee4])]; simp [go_sem, Act.eval]) (HA2.out (({ w2 with drawn := w2.drawn + 1 } : World)) ((HRX.out.more HB2.out).keep rfl (fun _ _ => rfl))) ?_
    rintro e9 w4 ⟨rfl, hb4⟩
    refine ⟨_, rfl, fun F7 => ?_⟩
    have HC2 : (fun wq => wq.cell? ⟨pb, 1, none⟩ = some (.pointer (some ⟨rb, 0, none⟩)) ∧ Blk wq ob #[.int .i64 o.k, .int .i64 o.who, .int .i64 o.a, .int .i64 o.b, .int .i64 o.h, .string ⟨o.n.toArray⟩, .int .i64 o.d, .int .i64 o.u, .slice o.la o.K o.cap] 92) w4 := ⟨cell_below hb4 HCC.1, HCC.2.below hb4 HCC.2.lt⟩
    refine lyp F7 rfl HC2 rfl (by omega) (wanted_none rfl) (v := Value.tuple #[.int .i64 s0, .bool b0]) (fun wr hwr => by simp only [execOp, (F7.eval 79 (by omega)).trans (show _ = Value.tuple #[.int .i64 s0, .bool b0] from by simp [upd, ee0, ee4])]; first | rfl | simp [go_sem]) fun F8 => ?_
    refine lyp F8 rfl HC2 rfl (by omega) (wanted_none rfl) (v := Value.int .i64 s0) (fun wr hwr => by simp only [execOp, (F8.eval 72 (by omega)).trans (show _ = Value.tuple #[.int .i64 s0, .bool b0] from by simp [upd, ee0, ee4])]; simp [go_sem]) fun F9 => ?_
    refine lyp F9 rfl HC2 rfl (by omega) (wanted_none rfl) (v := Value.bool b0) (fun wr hwr => by simp only [execOp, (F9.eval 72 (by omega)).trans (show _ = Value.tuple #[.int .i64 s0, .bool b0] from by simp [upd, ee0, ee4])]; simp [go_sem]) fun F10 => ?_
    refine lyp F10 rfl HC2 rfl (by omega) (wanted_none rfl) (v := Value.int .i64 s0) (fun wr hwr => by simp only [execOp, (F10.eval 80 (by omega)).trans (show _ = Value.int .i64 s0 from by simp [upd, ee0, ee4])]; first | rfl | simp [go_sem]) fun F11 => ?_
    refine lyp F11 rfl HC2 rfl (by omega) (wanted_none rfl) (v := Value.bool b0) (fun wr hwr => by simp only [execOp, (F11.eval 81 (by omega)).trans (show _ = Value.bool b0 from by simp [upd, ee0, ee4])]; first | rfl | simp [go_sem]) fun F12 => ?_
    refine ⟨fun _ => HC2, ?_⟩
    refine hK _ _ ?_
    clear F0 F1 F2 F3 F4 F5 F6 F7 F8 F9 F10 F11 F12 ee0 ee4 HCC HC2
    simp only [Act.put, List.setIfInBounds_toArray, List.set_cons_succ, List.set_cons_zero]
    have HB4 : Hid (Below w.heap.size w w4) := HBX.out.trans ((HB2.out.trans (((show Below w2.heap.size w2 (({ w2 with drawn := w2.drawn + 1 } : World)) from Below.drew (Below.refl _ _)).trans hb4).mono HB2.out.size)).mono HBX.out.size)
    clear hb4 HA2 x0 x5
    cases b0
    · go_wp2_with fail
      go_ret
      exact ⟨rfl, HSTAY.out _ HB4.out⟩
    · go_wp2_with fail
      go_ret
      exact ⟨rfl, HSTAY.out _ HB4.out⟩
  have hk4 : (o.k == 4) = false := by simpa using c4
  by_cases c6 : o.k = 6
  · have hk6 : (o.k == 6) = true := by simpa using c6
    clear c1 c2 c4 c6 hk3 hk5
    rcases HOV.out with hov | ⟨pb', L0', rb', M', me', N', v', L', A', hov, ⟨y0, y2, y3, y4, hBP⟩, hR', hag', hA'⟩
    · subst hov
      go_enter Try.func33, Try.ntmps33
      go_upto_region 1 with fail
      rw [← hX, ← hob]
      clear hX hob
      go_wp2_with fail
      go_ret
      exact ⟨rfl, HSTAY.out _ HBX.out⟩
    · subst hov
      have HDG : Hid (∀ W, RVw L0' rb' me' N' v' A' W → Calls Try.prog 46 #[.pointer (some ⟨rb', 0, none⟩)] W fun e w' => ∃ u, e = .returned u ∧ w'.ownsRow W.heap.size 46 7 u (rdigL me' A').length (flatV (rdigL me' A')) ∧ Below W.heap.size W w') := fun W h => rdigest_any W h (by omega)
      have HSN : Hid (∀ e ∈ rdigL me' A', e.sane) := dig_sane hag'
      have hcell : X.cell? ⟨pb', 1, none⟩ = some (.pointer (some ⟨rb', 0, none⟩)) := hBP.cell 1
      have HBP : Hid (Blk X pb' #[y0, .pointer (some ⟨rb', 0, none⟩), y2, y3, y4] 68) := hBP
      clear hBP
      have HLN : Hid ((rdigL me' A').length ≤ 90000) := show (rdigL me' A').length ≤ 90000 from by unfold rdigL; rw [List.length_map]; exact Nat.le_trans (nmsL_len _ _) hA'
      have HR' : Hid (RVw L0' rb' me' N' v' A' X) := hR'
      generalize rdigL me' A' = RD at *
      clear hR' hag' hA' HOV
      go_enter Try.func33, Try.ntmps33
      go_upto_region 1 with fail
      rw [← hX, ← hob]
      clear hX hob
      go_wp2_with fail
      rename_i K hK
      try rw [show ∀ a : Act, a.put none undef = a from fun _ => rfl]
      refine wp_region_mix (fun wq => wq.cell? ⟨pb', 1, none⟩ = some (.pointer (some ⟨rb', 0, none⟩)) ∧ wq.cell? ⟨ob, 2, none⟩ = some (.int .i64 o.a)) (fun i => i == 7 || i == 8 || i == 99) 99 (by kernel_rfl) rfl (by kernel_rfl) (by kernel_rfl) (by kernel_rfl) ?_
      refine withFrP (N := 109) rfl ?_
      intro f0 F0 hff
      have ee0 : f0 0 = Value.pointer (some ⟨pb, 0, none⟩) := hff 0
      have ee4 : f0 4 = Value.pointer (some ⟨ob, 0, none⟩) := hff 4
      have ee2 : f0 2 = Value.pointer (some ⟨pb', 0, none⟩) := hff 2
      clear hff
      have HCC : (fun wq => wq.cell? ⟨pb', 1, none⟩ = some (.pointer (some ⟨rb', 0, none⟩)) ∧ wq.cell? ⟨ob, 2, none⟩ = some (.int .i64 o.a)) (({ X with drawn := X.drawn + 1 } : World)) := ⟨hcell, x2⟩
      refine lyp F0 rfl HCC rfl (by omega) (wanted_none rfl) (v := Value.pointer (some ⟨pb, 0, none⟩)) (fun wr hwr => by simp only [execOp, (F0.eval 0 (by omega)).trans (show _ = Value.pointer (some ⟨pb, 0, none⟩) from by simp [upd, ee0, ee4, ee2])]; first | rfl | simp [go_sem]) fun F1 => ?_
      refine lyp F1 rfl HCC rfl (by omega) (wanted_none rfl) (v := Value.pointer (some ⟨ob, 2, none⟩)) (fun wr hwr => by simp only [execOp, (F1.eval 4 (by omega)).trans (show _ = Value.pointer (some ⟨ob, 0, none⟩) from by simp [upd, ee0, ee4, ee2])]; simp [go_sem]) fun F2 => ?_
      refine lyp F2 rfl HCC rfl (by omega) (wanted_none rfl) (v := Value.int .i64 o.a) (fun wr hwr => by simp only [execOp, (F2.eval 101 (by omega)).trans (show _ = Value.pointer (some ⟨ob, 2, none⟩) from by simp [upd, ee0, ee4, ee2])]; simp [go_sem, hwr.2]) fun F3 => ?_
      refine lyp F3 rfl HCC rfl (by omega) (wanted_none rfl) (v := Value.pointer (some ⟨pb', 0, none⟩)) (fun wr hwr => by simp only [execOp, (F3.eval 2 (by omega)).trans (show _ = Value.pointer (some ⟨pb', 0, none⟩) from by simp [upd, ee0, ee4, ee2])]; first | rfl | simp [go_sem]) fun F4 => ?_
      refine lyp F4 rfl HCC rfl (by omega) (wanted_none rfl) (v := Value.pointer (some ⟨pb', 0, none⟩)) (fun wr hwr => by simp only [execOp, (F4.eval 103 (by omega)).trans (show _ = Value.pointer (some ⟨pb', 0, none⟩) from by simp [upd, ee0, ee4, ee2])]; simp [go_sem]) fun F5 => ?_
      refine lyp F5 rfl HCC rfl (by omega) (wanted_none rfl) (v := Value.pointer (some ⟨pb', 1, none⟩)) (fun wr hwr => by simp only [execOp, (F5.eval 104 (by omega)).trans (show _ = Value.pointer (some ⟨pb', 0, none⟩) from by simp [upd, ee0, ee4, ee2])]; simp [go_sem]) fun F6 => ?_
      refine lyp F6 rfl HCC rfl (by omega) (wanted_none rfl) (v := Value.pointer (some ⟨rb', 0, none⟩)) (fun wr hwr => by simp only [execOp, (F6.eval 105 (by omega)).trans (show _ = Value.pointer (some ⟨pb', 1, none⟩) from by simp [upd, ee0, ee4, ee2])]; simp [go_sem, hwr.1]) fun F7 => ?_
      refine lcp F7 rfl HCC rfl (by omega) (wanted_none rfl) (g := 46) (args := #[Value.pointer (some ⟨rb', 0, none⟩)]) (by simp only [execOp, resolve, invoke, List.map_toArray, List.map_cons, List.map_nil, (F7.eval 106 (by omega)).trans (show _ = Value.pointer (some ⟨rb', 0, none⟩) from by simp [upd, ee0, ee4, ee2])]; simp [go_sem, Act.eval]) (HDG.out (({ X with drawn := X.drawn + 1 } : World)) (HR'.out.keep rfl (fun _ _ => rfl))) ?_
      rintro e9 w2 ⟨uv, rfl, hr2, hb2⟩
      obtain ⟨ua, uc, huv, hq7, hq8, hfu, hug⟩ := own_fromV hr2
      subst huv
      refine ⟨_, rfl, fun F8 => ?_⟩
      have hbX2 : Below X.heap.size X w2 := (Below.drew (Below.refl _ _)).trans hb2
      have HC2 : (fun wq => wq.cell? ⟨pb', 1, none⟩ = some (.pointer (some ⟨rb', 0, none⟩)) ∧ wq.cell? ⟨ob, 2, none⟩ = some (.int .i64 o.a)) w2 := ⟨cell_below hbX2 hcell, cell_below hbX2 x2⟩
      have hua : ∀ b off, ua = some ⟨b, off, none⟩ → X.heap.size ≤ b ∧ b < w2.heap.size := fun b off e => by
        subst e
        rcases hr2.2 with ⟨hh, _⟩ | ⟨g2, c2, cur, hh, h3, h4, _⟩
        · cases hh
        · cases hh
          exact ⟨h3, (Array.getElem?_eq_some_iff.1 h4).1⟩
      have hTK := takes_any o.a ua RD.length uc RD w2 (HPX.out.below hbX2 HPX.out.lt) (HVX.out.more hbX2) (HRX.out.more hbX2) HAG.out HAL.out hM rfl (by have := HLN.out; omega) hfu HSN.out (fun _ b off e => ⟨(hua b off e).2, fun e2 => by have := (hua b off e).1; have := HVX.out.map.lt; omega, fun e2 => by have := (hua b off e).1; have := HRX.out.blk.lt; omega, fun e2 => by have := (hua b off e).1; have := (ownsRow_lt HRX.out.row e2).2; omega⟩)
      refine lcp F8 rfl HC2 rfl (by omega) (wanted_none rfl) (g := 42) (args := #[Value.pointer (some ⟨pb, 0, none⟩), Value.int .i64 o.a, Value.slice ua RD.length uc]) (by simp only [execOp, resolve, invoke, List.map_toArray, List.map_cons, List.map_nil, (F8.eval 100 (by omega)).trans (show _ = Value.pointer (some ⟨pb, 0, none⟩) from by simp [upd, ee0, ee4, ee2]), (F8.eval 102 (by omega)).trans (show _ = Value.int .i64 o.a from by simp [upd, ee0, ee4, ee2]), (F8.eval 107 (by omega)).trans (show _ = Value.slice ua RD.length uc from by simp [upd, ee0, ee4, ee2])]; simp [go_sem, Act.eval]) hTK ?_
      rintro e9 w3 ⟨rfl, hP3⟩
      refine ⟨_, rfl, fun F9 => ?_⟩
      have HPO : Hid (PPost L0 hb mb rb me N v (M + 1) w w3) := PPost.from (PPost.from hP3 hbX2) HBX.out
      have hkk : ∀ k, k < X.heap.size → k ≠ mb → k ≠ rb → v.ownBlock ≠ some k → w3.heap[k]? = X.heap[k]? := fun k h1 h2 h3 h4 => by
        obtain ⟨_, _, _, _, _, _, _, hch, _⟩ := hP3
        exact (hch.block k (Nat.lt_of_lt_of_le h1 hbX2.size) (fun e => e.elim h2 (fun e => e.elim h3 h4))).trans (hbX2.block k h1)
      have HC3 : (fun wq => wq.cell? ⟨pb', 1, none⟩ = some (.pointer (some ⟨rb', 0, none⟩)) ∧ wq.cell? ⟨ob, 2, none⟩ = some (.int .i64 o.a)) w3 := ⟨(World.cell?_of_block (w := X) (hkk pb' HBP.out.lt (HVX.out.map.ne_b HBP.out) (HBP.out.ne_t HRX.out.blk (by decide)) (HRX.out.own_ne HBP.out (by decide)))).trans hcell, (World.cell?_of_block (w := X) (hkk ob HBO.out.lt (HVX.out.map.ne_b HBO.out) (HBO.out.ne_t HRX.out.blk (by decide)) (HRX.out.own_ne HBO.out (by decide)))).trans x2⟩
      refine lyp F9 rfl HC3 rfl (by omega) (wanted_none rfl) (v := Value.bool true) (fun wr hwr => by simp only [execOp, (F9.eval 108 (by omega)).trans (show _ = Value.bool true from by simp [upd, ee0, ee4, ee2])]; first | rfl | simp [go_sem]) fun F10 => ?_
      refine ⟨fun _ => HC3, ?_⟩
      refine hK _ _ ?_
      clear F0 F1 F2 F3 F4 F5 F6 F7 F8 F9 F10 ee0 ee4 ee2 HCC HC2 HC3 hkk hTK hua hbX2 hb2 hr2 hfu hug hq7 hq8 hP3
      simp only [Act.put, List.setIfInBounds_toArray, List.set_cons_succ, List.set_cons_zero]
      clear hcell x0 x2 x5 x8
      go_wp2_with fail
      go_ret
      exact ⟨rfl, HPO.out⟩
  have hk6 : (o.k == 6) = false := by simpa using c6
  clear c1 c2 c4 c6 hk3 hk5
  go_enter Try.func33, Try.ntmps33
  go_upto_region 1 with fail
  rw [← hX, ← hob]
  clear hX hob
  go_wp2_with fail
  go_ret
  exact ⟨rfl, HSTAY.out _ HBX.out⟩
end Go.Proofs.Ytifgmefdlmjocaa
