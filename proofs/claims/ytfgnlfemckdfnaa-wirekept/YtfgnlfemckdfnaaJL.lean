import Derived.Test.YtfgnlfemckdfnaaJF
import Derived.Test.YtfgnlfemckdfnaaJR
import Derived.Test.YtfgnlfemckdfnaaJJ
namespace Go.Proofs.Ytfgnlfemckdfnaa.Sh
open Go.RowKit Go.PlainAid
set_option linter.unusedVariables false
set_option linter.unusedSimpArgs false
theorem ownV_from {w : World} {L n c : Nat} {ao : Option Addr} {l : List View} (h : w.ownsRow L 112 7 (.slice ao n c) n (cellsOf l)) : VFrom w ao l := by
  intro i x hx
  have h0 : 0 < (cellsOf l).length := by
    have := cellsOf_get l i 0 x hx _ rfl
    have := (List.getElem?_eq_some_iff.1 this).1
    omega
  rcases h.2 with ⟨h1, h2⟩ | ⟨g, c2, cur, h1, _⟩
  · subst h2; have := h.1; omega
  · simp only [Value.slice.injEq] at h1
    obtain ⟨rfl, _, rfl⟩ := h1
    refine ⟨g, 0, rfl, fun j u hu => ?_⟩
    have := h.cells (g := g) rfl _ _ (cellsOf_get l i j x hx u hu)
    rw [addr_add, ← Nat.add_assoc] at this
    exact this
theorem ownB_from {w : World} {L n c : Nat} {ao : Option Addr} {bs : List UInt8} (h : w.ownsRow L 5 1 (.slice ao n c) n (bs.map B)) : From w ao bs := by
  intro h0
  rcases h.2 with ⟨h1, h2⟩ | ⟨g, c2, cur, h1, _⟩
  · subst h2; have := h.1; rw [List.length_map] at this; omega
  · simp only [Value.slice.injEq] at h1
    obtain ⟨rfl, _, rfl⟩ := h1
    refine ⟨g, 0, rfl, fun j u hu => ?_⟩
    have := h.cells (g := g) rfl j (B u) (by rw [List.getElem?_map, hu]; rfl)
    rw [addr_add] at this
    exact this
theorem cellsOf_len (l : List View) : (cellsOf l).length = l.length * 7 := by
  induction l with
  | nil => rfl
  | cons x l ih => simp only [cellsOf, List.length_append, List.length_cons, ih]; show 7 + _ = _; omega
set_option maxRecDepth 100000 in
set_option maxHeartbeats 1600000 in
theorem sameV_eq {ao bo : Option Addr} {n ca cb : Nat} {l : List View} (w : World) (hl : l.length = n) (hx : VFrom w ao l) (hy : VFrom w bo l) (hn : n ≤ 1000000) :
    Calls Try.prog 33 #[.slice ao n ca, .slice bo n cb] w fun r w' => r = .returned (.bool true) ∧ ∃ q, w' = w.drewN q := by
  have HX : Hid _ := hx
  have HY : Hid _ := hy
  clear hx hy
  go_enter Try.func33, Try.ntmps33
  go_wp2
  go_loopw [5] (fun i wr => ∃ k q : Nat, k ≤ n ∧ i = .int .i64 k ∧ wr = w.drewN q) (fun i _ => n - (intOf i).toNat)
  case atStart => exact ⟨0, 0, Nat.zero_le _, rfl, rfl⟩
  case round =>
    obtain ⟨k, q, hk, rfl, rfl⟩ := hrel
    by_cases hlt : k < n
    · obtain ⟨x, hxk⟩ : ∃ x, l[k]? = some x := ⟨_, List.getElem?_eq_getElem (by omega)⟩
      obtain ⟨g1, o1, rfl, h1⟩ := HX.out k x hxk
      obtain ⟨g2, o2, rfl, h2⟩ := HY.out k x hxk
      have a10 : w.cell? ⟨g1, o1 + k * 7, none⟩ = some (.string ⟨x.name.toArray⟩) := h1 0 _ rfl
      have a20 : w.cell? ⟨g2, o2 + k * 7, none⟩ = some (.string ⟨x.name.toArray⟩) := h2 0 _ rfl
      have a11 : w.cell? ⟨g1, o1 + k * 7 + 1, none⟩ = some (.int .i64 x.cap) := h1 1 _ rfl
      have a21 : w.cell? ⟨g2, o2 + k * 7 + 1, none⟩ = some (.int .i64 x.cap) := h2 1 _ rfl
      have a12 : w.cell? ⟨g1, o1 + k * 7 + 2, none⟩ = some (.int .i64 x.recaps) := h1 2 _ rfl
      have a22 : w.cell? ⟨g2, o2 + k * 7 + 2, none⟩ = some (.int .i64 x.recaps) := h2 2 _ rfl
      have a13 : w.cell? ⟨g1, o1 + k * 7 + 3, none⟩ = some (.int .i64 x.version) := h1 3 _ rfl
      have a23 : w.cell? ⟨g2, o2 + k * 7 + 3, none⟩ = some (.int .i64 x.version) := h2 3 _ rfl
      have a14 : w.cell? ⟨g1, o1 + k * 7 + 4, none⟩ = some (.int .i64 x.down) := h1 4 _ rfl
      have a24 : w.cell? ⟨g2, o2 + k * 7 + 4, none⟩ = some (.int .i64 x.down) := h2 4 _ rfl
      have a15 : w.cell? ⟨g1, o1 + k * 7 + 5, none⟩ = some (.int .i64 x.up) := h1 5 _ rfl
      have a25 : w.cell? ⟨g2, o2 + k * 7 + 5, none⟩ = some (.int .i64 x.up) := h2 5 _ rfl
      have a16 : w.cell? ⟨g1, o1 + k * 7 + 6, none⟩ = some (.int .i64 x.held) := h1 6 _ rfl
      have a26 : w.cell? ⟨g2, o2 + k * 7 + 6, none⟩ = some (.int .i64 x.held) := h2 6 _ rfl
      clear hxk HX HY h1 h2
      obtain ⟨xn, xc, xr, xv, xd, xu, xh⟩ := x
      simp only at a10 a11 a12 a13 a14 a15 a16 a20 a21 a22 a23 a24 a25 a26
      have b10 : (w.drewN q).cell? ⟨g1, o1 + k * 7, none⟩ = some (.string ⟨xn.toArray⟩) := a10
      have b20 : (w.drewN q).cell? ⟨g2, o2 + k * 7, none⟩ = some (.string ⟨xn.toArray⟩) := a20
      have b11 : (w.drewN q).cell? ⟨g1, o1 + k * 7 + 1, none⟩ = some (.int .i64 xc) := a11
      have b21 : (w.drewN q).cell? ⟨g2, o2 + k * 7 + 1, none⟩ = some (.int .i64 xc) := a21
      have b12 : (w.drewN q).cell? ⟨g1, o1 + k * 7 + 2, none⟩ = some (.int .i64 xr) := a12
      have b22 : (w.drewN q).cell? ⟨g2, o2 + k * 7 + 2, none⟩ = some (.int .i64 xr) := a22
      have b13 : (w.drewN q).cell? ⟨g1, o1 + k * 7 + 3, none⟩ = some (.int .i64 xv) := a13
      have b23 : (w.drewN q).cell? ⟨g2, o2 + k * 7 + 3, none⟩ = some (.int .i64 xv) := a23
      have b14 : (w.drewN q).cell? ⟨g1, o1 + k * 7 + 4, none⟩ = some (.int .i64 xd) := a14
      have b24 : (w.drewN q).cell? ⟨g2, o2 + k * 7 + 4, none⟩ = some (.int .i64 xd) := a24
      have b15 : (w.drewN q).cell? ⟨g1, o1 + k * 7 + 5, none⟩ = some (.int .i64 xu) := a15
      have b25 : (w.drewN q).cell? ⟨g2, o2 + k * 7 + 5, none⟩ = some (.int .i64 xu) := a25
      have b16 : (w.drewN q).cell? ⟨g1, o1 + k * 7 + 6, none⟩ = some (.int .i64 xh) := a16
      have b26 : (w.drewN q).cell? ⟨g2, o2 + k * 7 + 6, none⟩ = some (.int .i64 xh) := a26
      have hnq := neq_view xn xn xc xr xv xd xu xh xc xr xv xd xu xh
      have hvb : viewB ⟨xn, xc, xr, xv, xd, xu, xh⟩ ⟨xn, xc, xr, xv, xd, xu, xh⟩ = true := (viewB_iff _ _).2 rfl
      simp only [hvb, Bool.not_true] at hnq
      clear hvb
      go_wp2_with fail
      go_quiet (fail)
      go_wp2_with fail
      go_roundw
      case rel => exact ⟨k + 1, _, by omega, by go_num, rfl⟩
      case measure => simp [intOf]; omega
    · go_wp2_with fail
      go_ret
      exact ⟨rfl, _, rfl⟩
end Go.Proofs.Ytfgnlfemckdfnaa.Sh
namespace Go.Proofs.Ytfgnlfemckdfnaa.Sh
open Go.RowKit Go.PlainAid
set_option linter.unusedVariables false
set_option linter.unusedSimpArgs false
theorem wpList_runs {ops : Array Oper} {rest : List Oper} {o : Oper} {a : Act} {Q : Exit → Act → World → Prop} {w w' : World} (hgd : o.guard = none) (s x : Operand) (t : TypeId) (ho : o.op = .call { callee := .builtin .append, args := #[s, x], argTypes := #[t, t] }) {v y v' : Value} (hs : a.eval s = v) (hx : a.eval x = y)
    (hr : ∀ ty, (Builtin.append_ #[t, t] ty #[v, y]).run Try.prog w = .ok v' w') (h : wpList Try.prog ops Q rest (a.put o.dst v') w') : wpList Try.prog ops Q (o :: rest) a w := by
  refine wpList_plain hgd fun K hK => ?_
  unfold Oper.wp execOp
  simp only [ho, resolve, invoke, builtin, Sem.run_bind, Sem.run_pure, Result.andThen_ok, List.map_toArray, List.map_cons, List.map_nil, hs, hx, hr]
  exact hK _ _ h
theorem app_rows (t e : TypeId) (z : Value) (size bytes : Nat) (ht : Try.prog.underlying t = some (.slice e)) (hinfo : (Try.prog.info? e).map (fun i => (i.zero, i.size, i.bytes)) = some (some z, size, bytes)) (hzz : z.cells.size = size) (hs0 : 1 ≤ size) (hb0 : 0 < bytes)
    {w : World} {base k : Nat} {v : Value} {xs : List Value} (hown : w.ownsRow base e size v k xs) {ao : Option Addr} {m cap : Nat} {ys : List Value} (hys : ys.length = m * size) (hnil : ao = none → m = 0 ∧ cap = 0) (hnews : ∀ ad, ao = some ad → ∀ j u, ys[j]? = some u → w.cell? (ad.add j) = some u) (hone : ∀ u ∈ ys, u.oneCell' = true) (hby2 : (k + m) * bytes ≤ 140737488355328) (hbase : base ≤ w.heap.size) :
    ∃ v' w', (∀ ty, (Builtin.append_ #[t, t] ty #[v, .slice ao m cap]).run Try.prog w = .ok v' w') ∧ w'.ownsRow base e size v' (k + m) (xs ++ ys) ∧ Grew w w' v v' := by
  cases ao with
  | none =>
    obtain ⟨rfl, rfl⟩ := hnil rfl
    obtain ⟨i0, hi, _⟩ := info_parts hinfo
    obtain rfl := List.eq_nil_of_length_eq_zero (by simpa using hys)
    exact ⟨v, w, fun ty => run_append_owned_none w base t ty e i0 size ht hi v k _ hown, by simpa using hown, Grew.refl _ _⟩
  | some ad =>
    obtain ⟨v', w', a, b, c, _⟩ := app_any t e z size bytes ht hinfo hzz hs0 hb0 hown ad m cap ys hys (hnews ad rfl) hone hby2 hbase t
    exact ⟨v', w', fun ty => a, b, c⟩
theorem app_one {F : Fam} (hF : F.Ok) {w : World} {base : Nat} {v : Value} {xs : List Value} (x : Value) (hx : x.oneCell' = true) (hown : w.ownsRow base F.ts 1 v xs.length xs) (hb : base ≤ w.heap.size) (hl : xs.length ≤ 1000000000000) :
    ∃ v' w', (∀ ty, (Builtin.append_ #[F.tt, F.tt] ty #[v, .slice (some ⟨w.heap.size, 0, none⟩) 1 1]).run Try.prog (w.alloc (.cells #[x] F.ts)) = .ok v' w') ∧ w'.ownsRow base F.ts 1 v' (xs.length + 1) (xs ++ [x]) ∧ Grew w w' v v' := by
  obtain ⟨v5, w5, hr5, ho5, hg5, hin5⟩ := app_any (w := w.alloc (.cells #[x] F.ts)) F.tt F.ts (.slice none 0 0) 1 24 hF.ut hF.it rfl (by decide) (by decide) (hown.alloc _) ⟨w.heap.size, 0, none⟩ 1 1 [x] rfl (fun j uu hu => by
    have hB : Blk (w.alloc (.cells #[x] F.ts)) w.heap.size #[x] F.ts := heap_alloc_new w _
    rw [addr_add, Nat.zero_add, hB.cell j]
    simpa using hu) (fun uu hu => by rw [List.mem_singleton.1 hu]; exact hx) (by omega) (by rw [World.size_alloc]; omega) F.ts
  exact ⟨v5, w5, fun ty => hr5, ho5, hg5.ofAlloc⟩
structure LE where
  l : Value
  was : Value
  n : Nat
  zs : List Value
structure LM (F : Fam) (G : Nat → List Value → Prop) (L : Nat) (vI vW : Value) (es : List LE) (w : World) : Prop where
  xi : w.ownsRow L F.ts 1 vI es.length (es.map LE.l)
  xw : w.ownsRow L F.ts 1 vW es.length (es.map LE.was)
  el : ∀ e ∈ es, w.ownsRow L F.te F.se e.l e.n e.zs
  ew : ∀ e ∈ es, w.ownsRow L F.te F.se e.was e.n e.zs
  ln : ∀ e ∈ es, e.n ≤ 1000000
  gd : ∀ e ∈ es, G e.n e.zs
  iw : ∀ g, vI.ownBlock = some g → vW.ownBlock ≠ some g
  dj : es.Pairwise fun e f => ∀ g, e.l.ownBlock = some g → f.l.ownBlock ≠ some g
def LMB (vI vW : Value) (es : List LE) (k : Nat) : Prop := vI.ownBlock = some k ∨ vW.ownBlock = some k ∨ ∃ e ∈ es, e.l.ownBlock = some k ∨ e.was.ownBlock = some k
section
variable {F H : Fam} {G : Nat → List Value → Prop} {L : Nat} {vI vW : Value} {es : List LE} {w w2 : World} {B : Nat → Prop}
theorem LM.lt (h : LM F G L vI vW es w) {k : Nat} (hk : LMB vI vW es k) : L ≤ k ∧ k < w.heap.size := by
  rcases hk with e | e | ⟨x, hx, e | e⟩
  · exact ownsRow_lt h.xi e
  · exact ownsRow_lt h.xw e
  · exact ownsRow_lt (h.el x hx) e
  · exact ownsRow_lt (h.ew x hx) e
theorem LM.frame (h : LM F G L vI vW es w) (hc : Chg B w w2) (hB : ∀ k, LMB vI vW es k → ¬ B k) : LM F G L vI vW es w2 := by
  have hs := fun k (hk : LMB vI vW es k) => hc.block k (h.lt hk).2 (hB k hk)
  exact ⟨ownsRow_same h.xi (fun g e => hs g (.inl e)), ownsRow_same h.xw (fun g e => hs g (.inr (.inl e))), fun x hx => ownsRow_same (h.el x hx) (fun g e => hs g (.inr (.inr ⟨x, hx, .inl e⟩))), fun x hx => ownsRow_same (h.ew x hx) (fun g e => hs g (.inr (.inr ⟨x, hx, .inr e⟩))), h.ln, h.gd, h.iw, h.dj⟩
theorem LM.other {kb n1 n2 : Nat} {v0 x0 : Value} {C : Array Value} {xs1 xs2 : List Value} (hF : F.Ok) (h1 : F.ts ≠ H.ts) (h2 : F.te ≠ H.ts) (h : LM F G L vI vW es w) (hb : Blk w kb C 71) (hi : w.ownsRow L H.ts 1 v0 n1 xs1) (hw : w.ownsRow L H.ts 1 x0 n2 xs2)
    (hc : Chg (fun k => k = kb ∨ v0.ownBlock = some k ∨ x0.ownBlock = some k) w w2) : LM F G L vI vW es w2 := by
  refine h.frame hc (fun k hk hB => ?_)
  have hS : ∀ {u : Value} {n : Nat} {xs : List Value}, w.ownsRow L F.ts 1 u n xs → u.ownBlock = some k → False := fun hu e => by
    rcases hB with q | q | q
    · exact kb_ne hu hb hF.s71 k e q
    · exact ty_ne hu hi h1 k e q
    · exact ty_ne hu hw h1 k e q
  have hE : ∀ {u : Value} {n : Nat} {xs : List Value}, w.ownsRow L F.te F.se u n xs → u.ownBlock = some k → False := fun hu e => by
    rcases hB with q | q | q
    · exact kb_ne hu hb hF.e71 k e q
    · exact ty_ne hu hi h2 k e q
    · exact ty_ne hu hw h2 k e q
  rcases hk with e | e | ⟨x, hx, e | e⟩
  · exact hS h.xi e
  · exact hS h.xw e
  · exact hE (h.el x hx) e
  · exact hE (h.ew x hx) e
end
theorem late_put {F : Fam} {G : Nat → List Value → Prop} {L kb cw ne n : Nat} {io wo lo : Option Addr} {ic wc lc : Nat} {C0 : Array Value} {es : List LE} {zs : List Value} (w : World) (hF : F.Ok) (hcw : F.ci ≠ cw) (hne : ne = es.length)
    (hB : Blk w kb ((C0.setIfInBounds F.ci (.slice io ne ic)).setIfInBounds cw (.slice wo ne wc)) 71) (hK : LM F G L (.slice io ne ic) (.slice wo ne wc) es w) (hl : w.ownsRow L F.te F.se (.slice lo n lc) n zs) (hg : G n zs) (hone : ∀ u ∈ zs, u.oneCell' = true)
    (hap : ∀ e ∈ es, ∀ g, (Value.slice lo n lc).ownBlock = some g → e.l.ownBlock ≠ some g) (hn : n ≤ 1000000) (hel : ne ≤ 1000000000000) (hlk : L ≤ kb) :
    ∃ io1 ic1 w1, (∀ ty, (Builtin.append_ #[F.tt, F.tt] ty #[.slice io ne ic, .slice (some ⟨w.heap.size, 0, none⟩) 1 1]).run Try.prog (w.alloc (.cells #[.slice lo n lc] F.ts)) = .ok (.slice io1 (ne + 1) ic1) w1) ∧ Blk w1 kb ((C0.setIfInBounds F.ci (.slice io ne ic)).setIfInBounds cw (.slice wo ne wc)) 71 ∧
      ∃ Y, Y = w1.setCell ⟨kb, F.ci, none⟩ (.slice io1 (ne + 1) ic1) ∧ Blk Y kb ((C0.setIfInBounds F.ci (.slice io1 (ne + 1) ic1)).setIfInBounds cw (.slice wo ne wc)) 71 ∧
      ∃ co cc w2, (∀ ty, (Builtin.append_ #[F.ts, F.ts] ty #[.slice none 0 0, .slice lo n lc]).run Try.prog ({ Y with drawn := Y.drawn + 1 } : World) = .ok (.slice co n cc) w2) ∧ Blk w2 kb ((C0.setIfInBounds F.ci (.slice io1 (ne + 1) ic1)).setIfInBounds cw (.slice wo ne wc)) 71 ∧
      Blk (w2.alloc (.cells #[.slice co n cc] F.ts)) kb ((C0.setIfInBounds F.ci (.slice io1 (ne + 1) ic1)).setIfInBounds cw (.slice wo ne wc)) 71 ∧
      ∃ wo4 wc4 w4, (∀ ty, (Builtin.append_ #[F.tt, F.tt] ty #[.slice wo ne wc, .slice (some ⟨w2.heap.size, 0, none⟩) 1 1]).run Try.prog (w2.alloc (.cells #[.slice co n cc] F.ts)) = .ok (.slice wo4 (ne + 1) wc4) w4) ∧ Blk w4 kb ((C0.setIfInBounds F.ci (.slice io1 (ne + 1) ic1)).setIfInBounds cw (.slice wo ne wc)) 71 ∧
      ∃ W, W = w4.setCell ⟨kb, cw, none⟩ (.slice wo4 (ne + 1) wc4) ∧ Blk W kb ((C0.setIfInBounds F.ci (.slice io1 (ne + 1) ic1)).setIfInBounds cw (.slice wo4 (ne + 1) wc4)) 71 ∧ LM F G L (.slice io1 (ne + 1) ic1) (.slice wo4 (ne + 1) wc4) (es ++ [⟨.slice lo n lc, .slice co n cc, n, zs⟩]) W ∧
        Chg (fun k => k = kb ∨ (Value.slice io ne ic).ownBlock = some k ∨ (Value.slice wo ne wc).ownBlock = some k) w W ∧ ∀ k, LMB (.slice io1 (ne + 1) ic1) (.slice wo4 (ne + 1) wc4) (es ++ [⟨.slice lo n lc, .slice co n cc, n, zs⟩]) k → LMB (.slice io ne ic) (.slice wo ne wc) es k ∨ (Value.slice lo n lc).ownBlock = some k ∨ w.heap.size ≤ k := by
  subst hne
  have hLw : L ≤ w.heap.size := Nat.le_trans hlk (Nat.le_of_lt hB.lt)
  have xi := hK.xi
  rw [show es.length = (es.map LE.l).length from by simp] at xi
  obtain ⟨v1, w1, hr1, ho1, hg1⟩ := app_one hF (.slice lo n lc) rfl xi hLw (by simpa using hel)
  rw [List.length_map] at ho1 hr1 hg1
  obtain ⟨io1, ic1, rfl, _⟩ := own_slice ho1
  have hkI : ∀ g, (Value.slice io es.length ic).ownBlock = some g → g ≠ kb := kb_ne hK.xi hB hF.s71
  have hB1 := (grew_chg hg1).blk hB (fun e => hkI kb e rfl)
  refine ⟨io1, ic1, w1, hr1, hB1, _, rfl, ?_⟩
  generalize hY : w1.setCell ⟨kb, F.ci, none⟩ (.slice io1 (es.length + 1) ic1) = Y
  have hBY : Blk Y kb ((C0.setIfInBounds F.ci (.slice io1 (es.length + 1) ic1)).setIfInBounds cw (.slice wo es.length wc)) 71 := by
    have := hB1.set F.ci (.slice io1 (es.length + 1) ic1)
    rw [set_ci hcw, hY] at this
    exact this
  have hcY : Chg (fun k => k = kb ∨ (Value.slice io es.length ic).ownBlock = some k) w Y := by rw [← hY]; exact ((grew_chg hg1).mono (fun j _ e => Or.inr e)).trans (chg_setCell _) (fun j _ e => Or.inl e)
  have hkb1 : ∀ g, (Value.slice io1 (es.length + 1) ic1).ownBlock = some g → g ≠ kb := fun g e => by
    rcases hg1.at' g e with q | q
    · exact hkI g q
    · have := hB.lt; omega
  have hoY : Y.ownsRow L F.ts 1 (.slice io1 (es.length + 1) ic1) (es.length + 1) (es.map LE.l ++ [.slice lo n lc]) := by rw [← hY]; exact ownsRow_same ho1 (fun g e => (chg_setCell (w := w1) (g := kb) (k := F.ci) _).block g (ownsRow_lt ho1 e).2 (hkb1 g e))
  have hsame : ∀ {t s n : Nat} {u : Value} {xs : List Value}, w.ownsRow L t s u n xs → t ≠ 71 → (∀ g, u.ownBlock = some g → (Value.slice io es.length ic).ownBlock ≠ some g) → Y.ownsRow L t s u n xs := fun hu h44 hts => ownsRow_same hu (fun g e => hcY.block g (ownsRow_lt hu e).2 (fun hb => by
    rcases hb with hb | hb
    · exact kb_ne hu hB h44 g e hb
    · exact hts g e hb))
  have hwY := hsame hK.xw hF.s71 (fun g e1 e2 => hK.iw g e2 e1)
  have hlY := hsame hl hF.e71 (ty_ne hl hK.xi hF.es)
  have hiw1 : ∀ g, (Value.slice io1 (es.length + 1) ic1).ownBlock = some g → (Value.slice wo es.length wc).ownBlock ≠ some g := fun g e1 e2 => by
    rcases hg1.at' g e1 with q | q
    · exact hK.iw g q e2
    · have := (ownsRow_lt hK.xw e2).2; omega
  have hnilY : World.ownsRow ({ Y with drawn := Y.drawn + 1 } : World) Y.heap.size F.te F.se (.slice none 0 0) 0 [] := World.ownsRow_nil _ _ _ _
  have hb1 : (0 + n) * F.by' ≤ n * 1000 := by rw [Nat.zero_add]; exact Nat.mul_le_mul_left _ hF.b1
  obtain ⟨vc, w2, hr2, hoc0, hgc⟩ := app_rows (w := ({ Y with drawn := Y.drawn + 1 } : World)) F.ts F.te F.z F.se F.by' hF.ue hF.ie hF.hz hF.s1 hF.b0 hnilY (ao := lo) (m := n) (cap := lc) (ys := zs) hl.1 (fun e => by
    subst e
    rcases hlY.2 with ⟨h1, h2⟩ | ⟨g2, c, cur, h1, _⟩
    · simp only [Value.slice.injEq] at h1
      exact ⟨h1.2.1, h1.2.2⟩
    · cases h1) (fun ad had i x hx => by
    subst had
    rcases hlY.2 with ⟨h1, h2⟩ | ⟨g2, c, cur, h1, _⟩
    · cases h1
    · simp only [Value.slice.injEq, Option.some.injEq] at h1
      obtain ⟨rfl, _, rfl⟩ := h1
      exact hlY.cells (g := g2) rfl i x hx) hone (by omega) (Nat.le_refl _)
  rw [Nat.zero_add, List.nil_append] at hoc0
  obtain ⟨co, cc, rfl, _⟩ := own_slice hoc0
  have hb2 : Below Y.heap.size Y w2 := (Below.drew (Below.refl Y.heap.size Y)).trans (hgc.below (fun q hq => by cases hq) (Nat.le_refl _))
  have hLY : L ≤ Y.heap.size := Nat.le_trans hLw hcY.size
  have hoc : w2.ownsRow L F.te F.se (.slice co n cc) n zs := ownsRow_mono hoc0 hLY
  have hB2 : Blk w2 kb ((C0.setIfInBounds F.ci (.slice io1 (es.length + 1) ic1)).setIfInBounds cw (.slice wo es.length wc)) 71 := (hb2.block kb hBY.lt).trans hBY
  have hwY2 : w2.ownsRow L F.ts 1 (.slice wo es.length wc) es.length (es.map LE.was) := ownsRow_same hwY (fun g e => hb2.block g (ownsRow_lt hwY e).2)
  have hwY3 := hwY2
  rw [show es.length = (es.map LE.was).length from by simp] at hwY3
  obtain ⟨v4, w4, hr4, ho4, hg4⟩ := app_one hF (.slice co n cc) rfl hwY3 (Nat.le_trans hLY hb2.size) (by simpa using hel)
  rw [List.length_map] at ho4 hr4 hg4
  obtain ⟨wo4, wc4, rfl, _⟩ := own_slice ho4
  have hB4 := (grew_chg hg4).blk hB2 (fun e => kb_ne hwY2 hB2 hF.s71 kb e rfl)
  refine ⟨hBY, co, cc, w2, hr2, hB2, ((Below.refl _ _).alloc (Nat.le_refl w2.heap.size) _).block kb hB2.lt |>.trans hB2, wo4, wc4, w4, hr4, hB4, _, rfl, ?_⟩
  have hBW : Blk (w4.setCell ⟨kb, cw, none⟩ (.slice wo4 (es.length + 1) wc4)) kb ((C0.setIfInBounds F.ci (.slice io1 (es.length + 1) ic1)).setIfInBounds cw (.slice wo4 (es.length + 1) wc4)) 71 := by
    have := hB4.set cw (.slice wo4 (es.length + 1) wc4)
    rw [set_cm] at this
    exact this
  have hkw : ∀ g, (Value.slice wo4 (es.length + 1) wc4).ownBlock = some g → g ≠ kb := fun g e e2 => by
    rcases hg4.at' g e with q | q
    · exact kb_ne hwY2 hB2 hF.s71 g q e2
    · have h1 := hB2.lt; omega
  have hsf : ∀ {t s n : Nat} {u : Value} {xs : List Value}, Y.ownsRow L t s u n xs → t ≠ 71 → (∀ g, u.ownBlock = some g → (Value.slice wo es.length wc).ownBlock ≠ some g) → (w4.setCell ⟨kb, cw, none⟩ (.slice wo4 (es.length + 1) wc4)).ownsRow L t s u n xs := fun hu h44 hts => by
    have h1 := ownsRow_same hu (fun g e => hb2.block g (ownsRow_lt hu e).2)
    have h2 := ownsRow_same h1 (fun g e => (grew_chg hg4).block g (ownsRow_lt h1 e).2 (hts g e))
    exact ownsRow_same h2 (fun g e => (chg_setCell (w := w4) (g := kb) (k := cw) _).block g (ownsRow_lt h2 e).2 (fun e2 => kb_ne h2 hB4 h44 g e e2))
  have hsw : ∀ {n : Nat} {u : Value} {xs : List Value}, w.ownsRow L F.te F.se u n xs → (w4.setCell ⟨kb, cw, none⟩ (.slice wo4 (es.length + 1) wc4)).ownsRow L F.te F.se u n xs := fun hu => by
    have h1 := hsame hu hF.e71 (ty_ne hu hK.xi hF.es)
    exact hsf h1 hF.e71 (ty_ne h1 hwY hF.es)
  refine ⟨hBW, ⟨?xi, ?xw, fun e he => ?el, fun e he => ?ew, fun e he => ?ln, fun e he => ?gd, fun g e1 e2 => ?iw, ?dj⟩, ?chg, fun k hk => ?bl⟩
  case xi =>
    have := hsf hoY hF.s71 (fun g e1 e2 => hiw1 g e1 e2)
    simpa using this
  case xw =>
    have := ownsRow_same ho4 (fun g e => (chg_setCell (w := w4) (g := kb) (k := cw) (.slice wo4 (es.length + 1) wc4)).block g (ownsRow_lt ho4 e).2 (hkw g e))
    simpa using this
  case el =>
    rcases List.mem_append.1 he with q | q
    · exact hsw (hK.el e q)
    · rw [List.mem_singleton.1 q]
      exact hsw hl
  case ew =>
    rcases List.mem_append.1 he with q | q
    · exact hsw (hK.ew e q)
    · rw [List.mem_singleton.1 q]
      have h1 : w4.ownsRow L F.te F.se (.slice co n cc) n zs := ownsRow_same hoc (fun g e => (grew_chg hg4).block g (ownsRow_lt hoc e).2 (fun e2 => (ty_ne hoc hwY2 hF.es) g e e2))
      exact ownsRow_same h1 (fun g e => (chg_setCell (w := w4) (g := kb) (k := cw) (.slice wo4 (es.length + 1) wc4)).block g (ownsRow_lt h1 e).2 (fun e2 => kb_ne h1 hB4 hF.e71 g e e2))
  case ln =>
    rcases List.mem_append.1 he with q | q
    · exact hK.ln e q
    · rw [List.mem_singleton.1 q]; exact hn
  case gd =>
    rcases List.mem_append.1 he with q | q
    · exact hK.gd e q
    · rw [List.mem_singleton.1 q]; exact hg
  case iw =>
    rcases hg4.at' g e2 with q | q
    · exact hiw1 g e1 q
    · have h1 := (ownsRow_lt hoY e1).2
      have h2 := hb2.size
      omega
  case dj =>
    refine List.pairwise_append.2 ⟨hK.dj, List.pairwise_singleton _ _, fun e he f hf g e1 e2 => ?_⟩
    rw [List.mem_singleton.1 hf] at e2
    exact hap e he g e2 e1
  case chg =>
    have a1 : Chg (fun k => k = kb ∨ (Value.slice io es.length ic).ownBlock = some k ∨ (Value.slice wo es.length wc).ownBlock = some k) w Y := hcY.mono (fun j _ e => by
      rcases e with e | e
      · exact .inl e
      · exact .inr (.inl e))
    exact ((a1.trans (Chg.ofBelow (fun _ => False) hb2) (fun _ _ e => e.elim)).trans (grew_chg hg4) (fun j _ e => .inr (.inr e))).trans (chg_setCell (w := w4) (g := kb) (k := cw) _) (fun j _ e => .inl e)
  case bl =>
    have s1 := hcY.size
    have s2 := hb2.size
    rcases hk with q | q | ⟨x, hx, q⟩
    · rcases hg1.at' k q with q | q
      · exact .inl (.inl q)
      · exact .inr (.inr q)
    · rcases hg4.at' k q with q | q
      · exact .inl (.inr (.inl q))
      · exact .inr (.inr (by omega))
    · rcases List.mem_append.1 hx with hx | hx
      · exact .inl (.inr (.inr ⟨x, hx, q⟩))
      · rw [List.mem_singleton.1 hx] at q
        rcases q with q | q
        · exact .inr (.inl q)
        · have := (ownsRow_lt hoc0 q).1
          exact .inr (.inr (by omega))
structure LS where
  vI : Value
  vW : Value
  vR : Value
  vX : Value
  e : List LE
  r : List LE
def goodB (n : Nat) (zs : List Value) : Prop := ∃ bs : List UInt8, bs.length = n ∧ zs = bs.map B
def goodV (n : Nat) (zs : List Value) : Prop := ∃ l : List View, l.length = n ∧ zs = cellsOf l
structure KL (L kb : Nat) (s : LS) (w : World) : Prop where
  blk : Blk w kb #[.bool true, s.vI, s.vW, .slice none 0 0, s.vR, s.vX, .slice none 0 0] 71
  b : LM FB goodB L s.vI s.vW s.e w
  v : LM FV goodV L s.vR s.vX s.r w
  lk : L ≤ kb
def KLB (kb : Nat) (s : LS) (k : Nat) : Prop := k = kb ∨ LMB s.vI s.vW s.e k ∨ LMB s.vR s.vX s.r k
theorem KL.lt {L kb : Nat} {s : LS} {w : World} (h : KL L kb s w) {k : Nat} (hk : KLB kb s k) : L ≤ k ∧ k < w.heap.size := by
  rcases hk with rfl | e | e
  · exact ⟨h.lk, h.blk.lt⟩
  · exact h.b.lt e
  · exact h.v.lt e
theorem KL.frame {L kb : Nat} {s : LS} {w w2 : World} {B : Nat → Prop} (h : KL L kb s w) (hc : Chg B w w2) (hB : ∀ k, KLB kb s k → ¬ B k) : KL L kb s w2 :=
  ⟨hc.blk h.blk (hB kb (.inl rfl)), h.b.frame hc (fun k hk => hB k (.inr (.inl hk))), h.v.frame hc (fun k hk => hB k (.inr (.inr hk))), h.lk⟩
theorem oneB (bs : List UInt8) : ∀ u ∈ bs.map B, u.oneCell' = true := by
  intro u hu
  obtain ⟨x, _, rfl⟩ := List.mem_map.1 hu
  rfl
theorem oneV (l : List View) : ∀ u ∈ cellsOf l, u.oneCell' = true := by
  induction l with
  | nil => intro u hu; cases hu
  | cons x l ih =>
    intro u hu
    rcases List.mem_append.1 (show u ∈ viewCells x ++ cellsOf l from hu) with q | q
    · simp only [viewCells, List.mem_cons, List.not_mem_nil, or_false] at q
      rcases q with rfl | rfl | rfl | rfl | rfl | rfl | rfl <;> rfl
    · exact ih u q
end Go.Proofs.Ytfgnlfemckdfnaa.Sh
namespace Go.Proofs.Ytfgnlfemckdfnaa.Sh
open Go.RowKit Go.PlainAid
set_option linter.unusedVariables false
set_option linter.unusedSimpArgs false
theorem dj_at {es : List LE} (h : es.Pairwise fun e f => ∀ g, e.l.ownBlock = some g → f.l.ownBlock ≠ some g) {i j : Nat} {e f : LE} (he : es[i]? = some e) (hf : es[j]? = some f) (hne : i ≠ j) (g : Nat) (h1 : e.l.ownBlock = some g) : f.l.ownBlock ≠ some g := by
  have hi := (List.getElem?_eq_some_iff.1 he)
  have hj := (List.getElem?_eq_some_iff.1 hf)
  obtain ⟨hi1, rfl⟩ := hi
  obtain ⟨hj1, rfl⟩ := hj
  rcases Nat.lt_or_gt_of_ne hne with hlt | hlt
  · exact List.pairwise_iff_getElem.1 h i j hi1 hj1 hlt g h1
  · exact fun h2 => List.pairwise_iff_getElem.1 h j i hj1 hi1 hlt g h2 h1
structure FM (F : Fam) (L : Nat) (vI : Value) (es : List LE) (i : Nat) (wr : World) : Prop where
  xi : wr.ownsRow L F.ts 1 vI es.length (es.map LE.l)
  fu : ∀ (a : Nat) (e : LE), es[a]? = some e → a < i → wr.ownsRow L F.te F.se e.l e.n (full F e.n a)
  re : ∀ (a : Nat) (e : LE), es[a]? = some e → i ≤ a → wr.ownsRow L F.te F.se e.l e.n e.zs
theorem FM.step {F : Fam} (hF : F.Ok) {L : Nat} {vI : Value} {es : List LE} {i : Nat} {wr w2 : World} (h : FM F L vI es i wr) (hdj : es.Pairwise fun e f => ∀ g, e.l.ownBlock = some g → f.l.ownBlock ≠ some g) {e : LE} (he : es[i]? = some e) (hr : w2.ownsRow L F.te F.se e.l e.n (full F e.n i)) (hc : Chg (fun k => e.l.ownBlock = some k) wr w2) : FM F L vI es (i + 1) w2 := by
  have hre := h.re i e he (Nat.le_refl _)
  refine ⟨ownsRow_same h.xi (fun g e2 => hc.block g (ownsRow_lt h.xi e2).2 (fun e3 => ty_ne h.xi hre (Ne.symm hF.es) g e2 e3)), fun a f hf ha => ?_, fun a f hf ha => ?_⟩
  · by_cases hij : a = i
    · subst hij
      rw [he] at hf
      cases hf
      exact hr
    · have hq := h.fu a f hf (by omega)
      exact ownsRow_same hq (fun g e2 => hc.block g (ownsRow_lt hq e2).2 (fun e3 => dj_at hdj hf he hij g e2 e3))
  · have hq := h.re a f hf (by omega)
    exact ownsRow_same hq (fun g e2 => hc.block g (ownsRow_lt hq e2).2 (fun e3 => dj_at hdj hf he (by omega) g e2 e3))
theorem FM.frame {F : Fam} {L : Nat} {vI : Value} {es : List LE} {i : Nat} {wr w2 : World} {B : Nat → Prop} (h : FM F L vI es i wr) (hc : Chg B wr w2) (hB : ∀ {t s n : Nat} {u : Value} {xs : List Value}, (t = F.ts ∨ t = F.te) → wr.ownsRow L t s u n xs → ∀ g, u.ownBlock = some g → ¬ B g) : FM F L vI es i w2 := by
  have hs : ∀ {t s n : Nat} {u : Value} {xs : List Value}, (t = F.ts ∨ t = F.te) → wr.ownsRow L t s u n xs → w2.ownsRow L t s u n xs := fun ht hq => ownsRow_same hq (fun g e => hc.block g (ownsRow_lt hq e).2 (hB ht hq g e))
  exact ⟨hs (.inl rfl) h.xi, fun a f hf ha => hs (.inr rfl) (h.fu a f hf ha), fun a f hf ha => hs (.inr rfl) (h.re a f hf ha)⟩
def LO (s : LS) (k : Nat) : Prop := (∃ e ∈ s.e, e.l.ownBlock = some k) ∨ ∃ e ∈ s.r, e.l.ownBlock = some k
@[reducible] def ES0 : ES := ⟨.slice none 0 0, .slice none 0 0, .slice none 0 0, .slice none 0 0, [], []⟩
theorem KB0 {tb k : Nat} (h : KB tb ES0 k) : k = tb := by
  rcases h with q | (q | q | ⟨x, hx, _⟩) | (q | q | ⟨x, hx, _⟩)
  · exact q
  · cases q
  · cases q
  · cases hx
  · cases q
  · cases q
  · cases hx
theorem KE.new {L kb : Nat} {w : World} (h : Blk w kb #[.bool false, .slice none 0 0, .slice none 0 0, .slice none 0 0, .slice none 0 0, .slice none 0 0, .slice none 0 0] 71) (hL : L ≤ kb) : KE L kb ES0 w :=
  ⟨h, ⟨World.ownsRow_nil _ _ _ _, World.ownsRow_nil _ _ _ _, (fun e he => by cases he)⟩, ⟨World.ownsRow_nil _ _ _ _, World.ownsRow_nil _ _ _ _, (fun e he => by cases he)⟩, (fun g e => by cases e), (fun e he => by cases he), (fun e he => by cases he), hL⟩
structure LF (L kb : Nat) (s : LS) (w : World) (tb i j : Nat) (wr : World) : Prop where
  blk : Blk wr kb #[.bool true, s.vI, s.vW, .slice none 0 0, s.vR, s.vX, .slice none 0 0] 71
  b : FM FB L s.vI s.e i wr
  v : FM FV L s.vR s.r j wr
  tk : KE L tb ES0 wr
  chg : Chg (LO s) w wr
  lt : ∀ k, LO s k → k < w.heap.size
  tb : w.heap.size ≤ tb
structure HM (F : Fam) (L : Nat) (vI : Value) (es : List LE) (i : Nat) (wr : World) : Prop where
  xi : wr.ownsRow L F.ts 1 vI es.length (es.map LE.l)
  fu : ∀ (a : Nat) (e : LE), es[a]? = some e → i ≤ a → wr.ownsRow L F.te F.se e.l e.n (full F e.n a)
theorem HM.frame {F : Fam} {L : Nat} {vI : Value} {es : List LE} {i i2 : Nat} {wr w2 : World} {B : Nat → Prop} (h : HM F L vI es i wr) (hi : i ≤ i2) (hc : Chg B wr w2) (h1 : ∀ g, vI.ownBlock = some g → ¬ B g) (h2 : ∀ (a : Nat) (e : LE), es[a]? = some e → i2 ≤ a → ∀ g, e.l.ownBlock = some g → ¬ B g) : HM F L vI es i2 w2 :=
  ⟨ownsRow_same h.xi (fun g e => hc.block g (ownsRow_lt h.xi e).2 (h1 g e)), fun a f hf ha => by have hq := h.fu a f hf (by omega); exact ownsRow_same hq (fun g e => hc.block g (ownsRow_lt hq e).2 (h2 a f hf ha g e))⟩
structure LH (L kb : Nat) (s : LS) (w : World) (tb i j : Nat) (t : ES) (wr : World) : Prop where
  blk : Blk wr kb #[.bool true, s.vI, s.vW, .slice none 0 0, s.vR, s.vX, .slice none 0 0] 71
  b : HM FB L s.vI s.e i wr
  v : HM FV L s.vR s.r j wr
  tk : KE L tb t wr
  cn1 : t.e.length ≤ 18 * i
  cn2 : t.r.length ≤ 18 * j
  kb' : ∀ k, KB tb t k → w.heap.size ≤ k ∨ (∃ (a : Nat) (e : LE), s.e[a]? = some e ∧ a < i ∧ e.l.ownBlock = some k) ∨ ∃ (a : Nat) (e : LE), s.r[a]? = some e ∧ a < j ∧ e.l.ownBlock = some k
  chg : Chg (LO s) w wr
  lt : ∀ k, LO s k → k < w.heap.size
structure LK (L kb : Nat) (s : LS) (w : World) : Prop where
  de : s.e.Pairwise fun e f => ∀ g, e.l.ownBlock = some g → f.l.ownBlock ≠ some g
  dr : s.r.Pairwise fun e f => ∀ g, e.l.ownBlock = some g → f.l.ownBlock ≠ some g
  xr : ∀ e ∈ s.e, ∀ f ∈ s.r, ∀ g, e.l.ownBlock = some g → f.l.ownBlock ≠ some g
  kl : kb < w.heap.size
  vI : ∀ k, s.vI.ownBlock = some k → k < w.heap.size
  vR : ∀ k, s.vR.ownBlock = some k → k < w.heap.size
  lo : ∀ k, LO s k → k ≠ kb ∧ s.vI.ownBlock ≠ some k ∧ s.vR.ownBlock ≠ some k
theorem KL.lk' {L kb : Nat} {s : LS} {w : World} (hK : KL L kb s w) : LK L kb s w :=
  ⟨hK.b.dj, hK.v.dj, fun e he f hf => ty_ne (hK.b.el e he) (hK.v.el f hf) (by decide), hK.blk.lt, fun k hk => (ownsRow_lt hK.b.xi hk).2, fun k hk => (ownsRow_lt hK.v.xi hk).2, fun k h => by
    rcases h with ⟨e, he, hk⟩ | ⟨e, he, hk⟩
    · exact ⟨kb_ne (hK.b.el e he) hK.blk (by decide) k hk, ty_ne (hK.b.el e he) hK.b.xi (by decide) k hk, ty_ne (hK.b.el e he) hK.v.xi (by decide) k hk⟩
    · exact ⟨kb_ne (hK.v.el e he) hK.blk (by decide) k hk, ty_ne (hK.v.el e he) hK.b.xi (by decide) k hk, ty_ne (hK.v.el e he) hK.v.xi (by decide) k hk⟩⟩
theorem LF.held {L kb : Nat} {s : LS} {w : World} {tb : Nat} {wr : World} (h : LF L kb s w tb s.e.length s.r.length wr) : LH L kb s w tb 0 0 ES0 wr :=
  ⟨h.blk, ⟨h.b.xi, fun a e he _ => h.b.fu a e he (List.getElem?_eq_some_iff.1 he).1⟩, ⟨h.v.xi, fun a e he _ => h.v.fu a e he (List.getElem?_eq_some_iff.1 he).1⟩, h.tk, Nat.le_refl _, Nat.le_refl _, fun k hk => .inl (by rw [KB0 hk]; exact h.tb), h.chg, h.lt⟩
theorem LF.stepB {L kb : Nat} {s : LS} {w : World} {tb i j : Nat} {wr w2 : World} (h : LF L kb s w tb i j wr) (hL : LK L kb s w) {e : LE} (he : s.e[i]? = some e) (hr : w2.ownsRow L 5 1 e.l e.n (full FB e.n i)) (hc : Chg (fun k => e.l.ownBlock = some k) wr w2) : LF L kb s w tb (i + 1) j w2 := by
  have hre := h.b.re i e he (Nat.le_refl _)
  have hem : LO s = LO s := rfl
  have hin : ∀ k, e.l.ownBlock = some k → LO s k := fun k e2 => .inl ⟨e, List.mem_of_getElem? he, e2⟩
  refine ⟨hc.blk h.blk (fun e2 => kb_ne hre h.blk (by decide) kb e2 rfl), h.b.step FB.ok hL.de he hr hc, h.v.frame hc (fun ht hq g e2 e3 => ty_ne hq hre (by rcases ht with rfl | rfl <;> decide) g e2 e3), h.tk.frame hc (fun k hk e2 => by have h1 := h.lt k (hin k e2); have h2 := h.tb; rw [KB0 hk] at h1; omega), h.chg.trans hc (fun k _ e2 => hin k e2), h.lt, h.tb⟩
theorem LH.stepB {L kb : Nat} {s : LS} {w : World} {tb i j : Nat} {t t' : ES} {wr w2 : World} (h : LH L kb s w tb i j t wr) (hL : LK L kb s w) {e : LE} (he : s.e[i]? = some e) (hK2 : KE L tb t' w2) (hc : Chg (fun k => KB tb t k ∨ e.l.ownBlock = some k) wr w2) (hbl : ∀ k, KB tb t' k → KB tb t k ∨ e.l.ownBlock = some k ∨ wr.heap.size ≤ k) (hn1 : t'.e.length ≤ t.e.length + 18) (hn2 : t'.r.length ≤ t.r.length) : LH L kb s w tb (i + 1) j t' w2 := by
  have hKB : ∀ k, (KB tb t k ∨ e.l.ownBlock = some k) → w.heap.size ≤ k ∨ (∃ (a : Nat) (e : LE), s.e[a]? = some e ∧ a < i + 1 ∧ e.l.ownBlock = some k) ∨ ∃ (a : Nat) (e : LE), s.r[a]? = some e ∧ a < j ∧ e.l.ownBlock = some k := fun k q => by
    rcases q with q | q
    · rcases h.kb' k q with q | ⟨a, f, h1, h2, h3⟩ | ⟨a, f, h1, h2, h3⟩
      · exact .inl q
      · exact .inr (.inl ⟨a, f, h1, by omega, h3⟩)
      · exact .inr (.inr ⟨a, f, h1, by omega, h3⟩)
    · exact .inr (.inl ⟨i, e, he, by omega, q⟩)
  have hLO : ∀ k, (KB tb t k ∨ e.l.ownBlock = some k) → w.heap.size ≤ k ∨ LO s k := fun k hk => by
    rcases hKB k hk with q | ⟨a, f, h1, _, h3⟩ | ⟨a, f, h1, _, h3⟩
    · exact .inl q
    · exact .inr (.inl ⟨f, List.mem_of_getElem? h1, h3⟩)
    · exact .inr (.inr ⟨f, List.mem_of_getElem? h1, h3⟩)
  have hvv : ∀ {v : Value}, (∀ k, v.ownBlock = some k → k < w.heap.size) → (∀ k, LO s k → v.ownBlock ≠ some k) → ∀ g, v.ownBlock = some g → ¬ (KB tb t g ∨ e.l.ownBlock = some g) := fun h1 h2 g e2 hb => by
    rcases hLO g hb with q | q
    · have := h1 g e2; omega
    · exact h2 g q e2
  refine ⟨hc.blk h.blk (fun hb => by rcases hLO kb hb with q | q; have := hL.kl; omega; exact (hL.lo kb q).1 rfl), h.b.frame (by omega) hc (hvv hL.vI (fun k q => (hL.lo k q).2.1)) (fun a f hf ha g e2 hb => ?_), h.v.frame (by omega) hc (hvv hL.vR (fun k q => (hL.lo k q).2.2)) (fun a f hf ha g e2 hb => ?_), hK2, by have := h.cn1; omega, by have := h.cn2; omega, fun k hk => ?_, h.chg.trans hc (fun k hk hb => by rcases hLO k hb with q | q; omega; exact q), h.lt⟩
  · have hlt := h.lt g (.inl ⟨f, List.mem_of_getElem? hf, e2⟩)
    rcases hKB g hb with q | ⟨a', f', h1, h2, h3⟩ | ⟨a', f', h1, h2, h3⟩
    · omega
    · exact dj_at hL.de h1 hf (by omega) g h3 e2
    · exact hL.xr f (List.mem_of_getElem? hf) f' (List.mem_of_getElem? h1) g e2 h3
  · have hlt := h.lt g (.inr ⟨f, List.mem_of_getElem? hf, e2⟩)
    rcases hKB g hb with q | ⟨a', f', h1, h2, h3⟩ | ⟨a', f', h1, h2, h3⟩
    · omega
    · exact hL.xr f' (List.mem_of_getElem? h1) f (List.mem_of_getElem? hf) g h3 e2
    · exact dj_at hL.dr h1 hf (by omega) g h3 e2
  · have hsz := h.chg.size
    rcases hbl k hk with q | q | q
    · exact hKB k (.inl q)
    · exact hKB k (.inr q)
    · exact .inl (by omega)
theorem LH.noB {L kb : Nat} {s : LS} {w : World} {tb i j : Nat} {t : ES} {wr : World} (h : LH L kb s w tb i j t wr) (hL : LK L kb s w) {e : LE} (he : s.e[i]? = some e) (g : Nat) (h1 : e.l.ownBlock = some g) : ¬ KB tb t g := fun h2 => by
  rcases h.kb' g h2 with q | ⟨a, f, h3, h4, h5⟩ | ⟨a, f, h3, h4, h5⟩
  · have := h.lt g (.inl ⟨_, List.mem_of_getElem? he, h1⟩); omega
  · exact dj_at hL.de h3 he (by omega) g h5 h1
  · exact hL.xr _ (List.mem_of_getElem? he) f (List.mem_of_getElem? h3) g h1 h5
theorem LF.stepV {L kb : Nat} {s : LS} {w : World} {tb i j : Nat} {wr w2 : World} (h : LF L kb s w tb i j wr) (hL : LK L kb s w) {e : LE} (he : s.r[j]? = some e) (hr : w2.ownsRow L 112 7 e.l e.n (full FV e.n j)) (hc : Chg (fun k => e.l.ownBlock = some k) wr w2) : LF L kb s w tb i (j + 1) w2 := by
  have hre := h.v.re j e he (Nat.le_refl _)
  have hem : LO s = LO s := rfl
  have hin : ∀ k, e.l.ownBlock = some k → LO s k := fun k e2 => .inr ⟨e, List.mem_of_getElem? he, e2⟩
  refine ⟨hc.blk h.blk (fun e2 => kb_ne hre h.blk (by decide) kb e2 rfl), h.b.frame hc (fun ht hq g e2 e3 => ty_ne hq hre (by rcases ht with rfl | rfl <;> decide) g e2 e3), h.v.step FV.ok hL.dr he hr hc, h.tk.frame hc (fun k hk e2 => by have h1 := h.lt k (hin k e2); have h2 := h.tb; rw [KB0 hk] at h1; omega), h.chg.trans hc (fun k _ e2 => hin k e2), h.lt, h.tb⟩
theorem LH.stepV {L kb : Nat} {s : LS} {w : World} {tb i j : Nat} {t t' : ES} {wr w2 : World} (h : LH L kb s w tb i j t wr) (hL : LK L kb s w) {e : LE} (he : s.r[j]? = some e) (hK2 : KE L tb t' w2) (hc : Chg (fun k => KB tb t k ∨ e.l.ownBlock = some k) wr w2) (hbl : ∀ k, KB tb t' k → KB tb t k ∨ e.l.ownBlock = some k ∨ wr.heap.size ≤ k) (hn1 : t'.r.length ≤ t.r.length + 18) (hn2 : t'.e.length ≤ t.e.length) : LH L kb s w tb i (j + 1) t' w2 := by
  have hKB : ∀ k, (KB tb t k ∨ e.l.ownBlock = some k) → w.heap.size ≤ k ∨ (∃ (a : Nat) (e : LE), s.e[a]? = some e ∧ a < i ∧ e.l.ownBlock = some k) ∨ ∃ (a : Nat) (e : LE), s.r[a]? = some e ∧ a < j + 1 ∧ e.l.ownBlock = some k := fun k q => by
    rcases q with q | q
    · rcases h.kb' k q with q | ⟨a, f, h1, h2, h3⟩ | ⟨a, f, h1, h2, h3⟩
      · exact .inl q
      · exact .inr (.inl ⟨a, f, h1, by omega, h3⟩)
      · exact .inr (.inr ⟨a, f, h1, by omega, h3⟩)
    · exact .inr (.inr ⟨j, e, he, by omega, q⟩)
  have hLO : ∀ k, (KB tb t k ∨ e.l.ownBlock = some k) → w.heap.size ≤ k ∨ LO s k := fun k hk => by
    rcases hKB k hk with q | ⟨a, f, h1, _, h3⟩ | ⟨a, f, h1, _, h3⟩
    · exact .inl q
    · exact .inr (.inl ⟨f, List.mem_of_getElem? h1, h3⟩)
    · exact .inr (.inr ⟨f, List.mem_of_getElem? h1, h3⟩)
  have hvv : ∀ {v : Value}, (∀ k, v.ownBlock = some k → k < w.heap.size) → (∀ k, LO s k → v.ownBlock ≠ some k) → ∀ g, v.ownBlock = some g → ¬ (KB tb t g ∨ e.l.ownBlock = some g) := fun h1 h2 g e2 hb => by
    rcases hLO g hb with q | q
    · have := h1 g e2; omega
    · exact h2 g q e2
  refine ⟨hc.blk h.blk (fun hb => by rcases hLO kb hb with q | q; have := hL.kl; omega; exact (hL.lo kb q).1 rfl), h.b.frame (by omega) hc (hvv hL.vI (fun k q => (hL.lo k q).2.1)) (fun a f hf ha g e2 hb => ?_), h.v.frame (by omega) hc (hvv hL.vR (fun k q => (hL.lo k q).2.2)) (fun a f hf ha g e2 hb => ?_), hK2, by have := h.cn1; omega, by have := h.cn2; omega, fun k hk => ?_, h.chg.trans hc (fun k hk hb => by rcases hLO k hb with q | q; omega; exact q), h.lt⟩
  · have hlt := h.lt g (.inl ⟨f, List.mem_of_getElem? hf, e2⟩)
    rcases hKB g hb with q | ⟨a', f', h1, h2, h3⟩ | ⟨a', f', h1, h2, h3⟩
    · omega
    · exact dj_at hL.de h1 hf (by omega) g h3 e2
    · exact hL.xr f (List.mem_of_getElem? hf) f' (List.mem_of_getElem? h1) g e2 h3
  · have hlt := h.lt g (.inr ⟨f, List.mem_of_getElem? hf, e2⟩)
    rcases hKB g hb with q | ⟨a', f', h1, h2, h3⟩ | ⟨a', f', h1, h2, h3⟩
    · omega
    · exact hL.xr f' (List.mem_of_getElem? h1) f (List.mem_of_getElem? hf) g h3 e2
    · exact dj_at hL.dr h1 hf (by omega) g h3 e2
  · have hsz := h.chg.size
    rcases hbl k hk with q | q | q
    · exact hKB k (.inl q)
    · exact hKB k (.inr q)
    · exact .inl (by omega)
theorem LH.noV {L kb : Nat} {s : LS} {w : World} {tb i j : Nat} {t : ES} {wr : World} (h : LH L kb s w tb i j t wr) (hL : LK L kb s w) {e : LE} (he : s.r[j]? = some e) (g : Nat) (h1 : e.l.ownBlock = some g) : ¬ KB tb t g := fun h2 => by
  rcases h.kb' g h2 with q | ⟨a, f, h3, h4, h5⟩ | ⟨a, f, h3, h4, h5⟩
  · have := h.lt g (.inr ⟨_, List.mem_of_getElem? he, h1⟩); omega
  · exact hL.xr f (List.mem_of_getElem? h3) _ (List.mem_of_getElem? he) g h5 h1
  · exact dj_at hL.dr h3 he (by omega) g h5 h1
end Go.Proofs.Ytfgnlfemckdfnaa.Sh
