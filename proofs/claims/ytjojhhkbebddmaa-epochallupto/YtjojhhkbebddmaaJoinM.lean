import Derived.Test.YtjojhhkbebddmaaShP0
import Derived.Test.YtjojhhkbebddmaaE5
import Derived.Deep.Cut
import Derived.Test.YtjojhhkbebddmaaMix2
import Derived.Test.YtjojhhkbebddmaaL1
import Derived.Test.YtjojhhkbebddmaaShW
import Derived.Test.YtjojhhkbebddmaaShHA
import Derived.Test.YtjojhhkbebddmaaShHE
namespace Go.Proofs.Ytjojhhkbebddmaa.Lt
open Go.RowKit Go.PlainAid
set_option linter.unusedVariables false
set_option linter.unusedSimpArgs false
theorem app_one {F : Fam} (hF : F.Ok) {w : World} {base : Nat} {v : Value} {xs : List Value} (x : Value) (hx : x.oneCell' = true) (hown : w.ownsRow base F.ts 1 v xs.length xs) (hb : base ≤ w.heap.size) (hl : xs.length ≤ 1000000000000) :
    ∃ v' w', (∀ ty, (Builtin.append_ #[F.tt, F.tt] ty #[v, .slice (some ⟨w.heap.size, 0, none⟩) 1 1]).run Try.prog (w.alloc (.cells #[x] F.ts)) = .ok v' w') ∧ w'.ownsRow base F.ts 1 v' (xs.length + 1) (xs ++ [x]) ∧ Grew w w' v v' := by
  obtain ⟨v5, w5, hr5, ho5, hg5, hin5⟩ := app_any (w := w.alloc (.cells #[x] F.ts)) F.tt F.ts (.slice none 0 0) 1 24 hF.ut hF.it rfl (by decide) (by decide) (hown.alloc _) ⟨w.heap.size, 0, none⟩ 1 1 [x] rfl (fun j uu hu => by
    have hB : Blk (w.alloc (.cells #[x] F.ts)) w.heap.size #[x] F.ts := heap_alloc_new w _
    rw [addr_add, Nat.zero_add, hB.cell j]
    simpa using hu) (fun uu hu => by rw [List.mem_singleton.1 hu]; exact hx) (by omega) (by rw [World.size_alloc]; omega) F.ts
  exact ⟨v5, w5, fun ty => hr5, ho5, hg5.ofAlloc⟩
/-- An answer that is left as it is. -/
structure LE where
  l : Value
  was : Value
  n : Nat
  zs : List Value
/-- The lists of one kind, left as they are, and what they were. -/
structure LM (F : Fam) (G : Nat → List Value → Prop) (L : Nat) (vI vW : Value) (es : List LE) (w : World) : Prop where
  xi : w.ownsRow L F.ts 1 vI es.length (es.map LE.l)
  xw : w.ownsRow L F.ts 1 vW es.length (es.map LE.was)
  el : ∀ e ∈ es, w.ownsRow L F.te F.se e.l e.n e.zs
  ew : ∀ e ∈ es, w.ownsRow L F.te F.se e.was e.n e.zs
  ln : ∀ e ∈ es, e.n ≤ 1000000
  gd : ∀ e ∈ es, G e.n e.zs
  iw : ∀ g, vI.ownBlock = some g → vW.ownBlock ≠ some g
  dj : es.Pairwise fun e f => ∀ g, e.l.ownBlock = some g → f.l.ownBlock ≠ some g
def LMB (vI vW : Value) (es : List LE) (k : Nat) : Prop := vI.ownBlock = some k ∨ vW.ownBlock = some k ∨ ∃ e ∈ es, e.l.ownBlock = some k ∨ e.was.ownBlock = some k
section
variable {F H : Fam} {G : Nat → List Value → Prop} {L : Nat} {vI vW : Value} {es : List LE} {w w2 : World} {B : Nat → Prop}
theorem LM.lt (h : LM F G L vI vW es w) {k : Nat} (hk : LMB vI vW es k) : L ≤ k ∧ k < w.heap.size := by
  rcases hk with e | e | ⟨x, hx, e | e⟩
  · exact ownsRow_lt h.xi e
  · exact ownsRow_lt h.xw e
  · exact ownsRow_lt (h.el x hx) e
  · exact ownsRow_lt (h.ew x hx) e
theorem LM.frame (h : LM F G L vI vW es w) (hc : Chg B w w2) (hB : ∀ k, LMB vI vW es k → ¬ B k) : LM F G L vI vW es w2 := by
  have hs := fun k (hk : LMB vI vW es k) => hc.block k (h.lt hk).2 (hB k hk)
  exact ⟨ownsRow_same h.xi (fun g e => hs g (.inl e)), ownsRow_same h.xw (fun g e => hs g (.inr (.inl e))), fun x hx => ownsRow_same (h.el x hx) (fun g e => hs g (.inr (.inr ⟨x, hx, .inl e⟩))), fun x hx => ownsRow_same (h.ew x hx) (fun g e => hs g (.inr (.inr ⟨x, hx, .inr e⟩))), h.ln, h.gd, h.iw, h.dj⟩
theorem LM.other {kb n1 n2 : Nat} {v0 x0 : Value} {C : Array Value} {xs1 xs2 : List Value} (hF : F.Ok) (h1 : F.ts ≠ H.ts) (h2 : F.te ≠ H.ts) (h : LM F G L vI vW es w) (hb : Blk w kb C 76) (hi : w.ownsRow L H.ts 1 v0 n1 xs1) (hw : w.ownsRow L H.ts 1 x0 n2 xs2)
    (hc : Chg (fun k => k = kb ∨ v0.ownBlock = some k ∨ x0.ownBlock = some k) w w2) : LM F G L vI vW es w2 := by
  refine h.frame hc (fun k hk hB => ?_)
  have hS : ∀ {u : Value} {n : Nat} {xs : List Value}, w.ownsRow L F.ts 1 u n xs → u.ownBlock = some k → False := fun hu e => by
    rcases hB with q | q | q
    · exact kb_ne hu hb hF.s76 k e q
    · exact ty_ne hu hi h1 k e q
    · exact ty_ne hu hw h1 k e q
  have hE : ∀ {u : Value} {n : Nat} {xs : List Value}, w.ownsRow L F.te F.se u n xs → u.ownBlock = some k → False := fun hu e => by
    rcases hB with q | q | q
    · exact kb_ne hu hb hF.e76 k e q
    · exact ty_ne hu hi h2 k e q
    · exact ty_ne hu hw h2 k e q
  rcases hk with e | e | ⟨x, hx, e | e⟩
  · exact hS h.xi e
  · exact hS h.xw e
  · exact hE (h.el x hx) e
  · exact hE (h.ew x hx) e
end
/-- One more answer is left as it is: all that happens in memory. -/
theorem late_put {F : Fam} {G : Nat → List Value → Prop} {L kb cw ne n : Nat} {io wo lo : Option Addr} {ic wc lc : Nat} {C0 : Array Value} {es : List LE} {zs : List Value} (w : World) (hF : F.Ok) (hcw : F.ci ≠ cw) (hne : ne = es.length)
    (hB : Blk w kb ((C0.setIfInBounds F.ci (.slice io ne ic)).setIfInBounds cw (.slice wo ne wc)) 76) (hK : LM F G L (.slice io ne ic) (.slice wo ne wc) es w) (hl : w.ownsRow L F.te F.se (.slice lo n lc) n zs) (hg : G n zs) (hone : ∀ u ∈ zs, u.oneCell' = true)
    (hap : ∀ e ∈ es, ∀ g, (Value.slice lo n lc).ownBlock = some g → e.l.ownBlock ≠ some g) (hn : n ≤ 1000000) (hel : ne ≤ 1000000000000) (hlk : L ≤ kb) :
    ∃ io1 ic1 w1, (∀ ty, (Builtin.append_ #[F.tt, F.tt] ty #[.slice io ne ic, .slice (some ⟨w.heap.size, 0, none⟩) 1 1]).run Try.prog (w.alloc (.cells #[.slice lo n lc] F.ts)) = .ok (.slice io1 (ne + 1) ic1) w1) ∧ Blk w1 kb ((C0.setIfInBounds F.ci (.slice io ne ic)).setIfInBounds cw (.slice wo ne wc)) 76 ∧
      ∃ Y, Y = w1.setCell ⟨kb, F.ci, none⟩ (.slice io1 (ne + 1) ic1) ∧ Blk Y kb ((C0.setIfInBounds F.ci (.slice io1 (ne + 1) ic1)).setIfInBounds cw (.slice wo ne wc)) 76 ∧
      ∃ co cc w2, (∀ ty, (Builtin.append_ #[F.ts, F.ts] ty #[.slice none 0 0, .slice lo n lc]).run Try.prog ({ Y with drawn := Y.drawn + 1 } : World) = .ok (.slice co n cc) w2) ∧ Blk w2 kb ((C0.setIfInBounds F.ci (.slice io1 (ne + 1) ic1)).setIfInBounds cw (.slice wo ne wc)) 76 ∧
      Blk (w2.alloc (.cells #[.slice co n cc] F.ts)) kb ((C0.setIfInBounds F.ci (.slice io1 (ne + 1) ic1)).setIfInBounds cw (.slice wo ne wc)) 76 ∧
      ∃ wo4 wc4 w4, (∀ ty, (Builtin.append_ #[F.tt, F.tt] ty #[.slice wo ne wc, .slice (some ⟨w2.heap.size, 0, none⟩) 1 1]).run Try.prog (w2.alloc (.cells #[.slice co n cc] F.ts)) = .ok (.slice wo4 (ne + 1) wc4) w4) ∧ Blk w4 kb ((C0.setIfInBounds F.ci (.slice io1 (ne + 1) ic1)).setIfInBounds cw (.slice wo ne wc)) 76 ∧
      ∃ W, W = w4.setCell ⟨kb, cw, none⟩ (.slice wo4 (ne + 1) wc4) ∧ Blk W kb ((C0.setIfInBounds F.ci (.slice io1 (ne + 1) ic1)).setIfInBounds cw (.slice wo4 (ne + 1) wc4)) 76 ∧ LM F G L (.slice io1 (ne + 1) ic1) (.slice wo4 (ne + 1) wc4) (es ++ [⟨.slice lo n lc, .slice co n cc, n, zs⟩]) W ∧
        Chg (fun k => k = kb ∨ (Value.slice io ne ic).ownBlock = some k ∨ (Value.slice wo ne wc).ownBlock = some k) w W ∧ ∀ k, LMB (.slice io1 (ne + 1) ic1) (.slice wo4 (ne + 1) wc4) (es ++ [⟨.slice lo n lc, .slice co n cc, n, zs⟩]) k → LMB (.slice io ne ic) (.slice wo ne wc) es k ∨ (Value.slice lo n lc).ownBlock = some k ∨ w.heap.size ≤ k := by
  subst hne
  have hLw : L ≤ w.heap.size := Nat.le_trans hlk (Nat.le_of_lt hB.lt)
  have xi := hK.xi
  rw [show es.length = (es.map LE.l).length from by simp] at xi
  obtain ⟨v1, w1, hr1, ho1, hg1⟩ := app_one hF (.slice lo n lc) rfl xi hLw (by simpa using hel)
  rw [List.length_map] at ho1 hr1 hg1
  obtain ⟨io1, ic1, rfl, _⟩ := own_slice ho1
  have hkI : ∀ g, (Value.slice io es.length ic).ownBlock = some g → g ≠ kb := kb_ne hK.xi hB hF.s76
  have hB1 := (Grew.chg hg1).blk hB (fun e => hkI kb e rfl)
  refine ⟨io1, ic1, w1, hr1, hB1, _, rfl, ?_⟩
  generalize hY : w1.setCell ⟨kb, F.ci, none⟩ (.slice io1 (es.length + 1) ic1) = Y
  have hBY : Blk Y kb ((C0.setIfInBounds F.ci (.slice io1 (es.length + 1) ic1)).setIfInBounds cw (.slice wo es.length wc)) 76 := by
    have := hB1.set F.ci (.slice io1 (es.length + 1) ic1)
    rw [set_ci hcw, hY] at this
    exact this
  have hcY : Chg (fun k => k = kb ∨ (Value.slice io es.length ic).ownBlock = some k) w Y := by rw [← hY]; exact ((Grew.chg hg1).mono (fun j _ e => Or.inr e)).trans (chg_setCell _) (fun j _ e => Or.inl e)
  have hkb1 : ∀ g, (Value.slice io1 (es.length + 1) ic1).ownBlock = some g → g ≠ kb := fun g e => by
    rcases hg1.at' g e with q | q
    · exact hkI g q
    · have := hB.lt; omega
  have hoY : Y.ownsRow L F.ts 1 (.slice io1 (es.length + 1) ic1) (es.length + 1) (es.map LE.l ++ [.slice lo n lc]) := by rw [← hY]; exact ownsRow_same ho1 (fun g e => (chg_setCell (w := w1) (g := kb) (k := F.ci) _).block g (ownsRow_lt ho1 e).2 (hkb1 g e))
  have hsame : ∀ {t s n : Nat} {u : Value} {xs : List Value}, w.ownsRow L t s u n xs → t ≠ 76 → (∀ g, u.ownBlock = some g → (Value.slice io es.length ic).ownBlock ≠ some g) → Y.ownsRow L t s u n xs := fun hu h44 hts => ownsRow_same hu (fun g e => hcY.block g (ownsRow_lt hu e).2 (fun hb => by
    rcases hb with hb | hb
    · exact kb_ne hu hB h44 g e hb
    · exact hts g e hb))
  have hwY := hsame hK.xw hF.s76 (fun g e1 e2 => hK.iw g e2 e1)
  have hlY := hsame hl hF.e76 (ty_ne hl hK.xi hF.es)
  have hiw1 : ∀ g, (Value.slice io1 (es.length + 1) ic1).ownBlock = some g → (Value.slice wo es.length wc).ownBlock ≠ some g := fun g e1 e2 => by
    rcases hg1.at' g e1 with q | q
    · exact hK.iw g q e2
    · have := (ownsRow_lt hK.xw e2).2; omega
  have hnilY : World.ownsRow ({ Y with drawn := Y.drawn + 1 } : World) Y.heap.size F.te F.se (.slice none 0 0) 0 [] := World.ownsRow_nil _ _ _ _
  have hb1 : (0 + n) * F.by' ≤ n * 1000 := by rw [Nat.zero_add]; exact Nat.mul_le_mul_left _ hF.b1
  obtain ⟨vc, w2, hr2, hoc0, hgc⟩ := app_rows (w := ({ Y with drawn := Y.drawn + 1 } : World)) F.ts F.te F.z F.se F.by' hF.ue hF.ie hF.hz hF.s1 hF.b0 hnilY (ao := lo) (m := n) (cap := lc) (ys := zs) hl.1 (fun e => by
    subst e
    rcases hlY.2 with ⟨h1, h2⟩ | ⟨g2, c, cur, h1, _⟩
    · simp only [Value.slice.injEq] at h1
      exact ⟨h1.2.1, h1.2.2⟩
    · cases h1) (fun ad had i x hx => by
    subst had
    rcases hlY.2 with ⟨h1, h2⟩ | ⟨g2, c, cur, h1, _⟩
    · cases h1
    · simp only [Value.slice.injEq, Option.some.injEq] at h1
      obtain ⟨rfl, _, rfl⟩ := h1
      exact hlY.cells (g := g2) rfl i x hx) hone (by omega) (Nat.le_refl _)
  rw [Nat.zero_add, List.nil_append] at hoc0
  obtain ⟨co, cc, rfl, _⟩ := own_slice hoc0
  have hb2 : Below Y.heap.size Y w2 := (Below.drew (Below.refl Y.heap.size Y)).trans (hgc.below (fun q hq => by cases hq) (Nat.le_refl _))
  have hLY : L ≤ Y.heap.size := Nat.le_trans hLw hcY.size
  have hoc : w2.ownsRow L F.te F.se (.slice co n cc) n zs := ownsRow_mono hoc0 hLY
  have hB2 : Blk w2 kb ((C0.setIfInBounds F.ci (.slice io1 (es.length + 1) ic1)).setIfInBounds cw (.slice wo es.length wc)) 76 := (hb2.block kb hBY.lt).trans hBY
  have hwY2 : w2.ownsRow L F.ts 1 (.slice wo es.length wc) es.length (es.map LE.was) := ownsRow_same hwY (fun g e => hb2.block g (ownsRow_lt hwY e).2)
  have hwY3 := hwY2
  rw [show es.length = (es.map LE.was).length from by simp] at hwY3
  obtain ⟨v4, w4, hr4, ho4, hg4⟩ := app_one hF (.slice co n cc) rfl hwY3 (Nat.le_trans hLY hb2.size) (by simpa using hel)
  rw [List.length_map] at ho4 hr4 hg4
  obtain ⟨wo4, wc4, rfl, _⟩ := own_slice ho4
  have hB4 := (Grew.chg hg4).blk hB2 (fun e => kb_ne hwY2 hB2 hF.s76 kb e rfl)
  refine ⟨hBY, co, cc, w2, hr2, hB2, ((Below.refl _ _).alloc (Nat.le_refl w2.heap.size) _).block kb hB2.lt |>.trans hB2, wo4, wc4, w4, hr4, hB4, _, rfl, ?_⟩
  have hBW : Blk (w4.setCell ⟨kb, cw, none⟩ (.slice wo4 (es.length + 1) wc4)) kb ((C0.setIfInBounds F.ci (.slice io1 (es.length + 1) ic1)).setIfInBounds cw (.slice wo4 (es.length + 1) wc4)) 76 := by
    have := hB4.set cw (.slice wo4 (es.length + 1) wc4)
    rw [set_cm] at this
    exact this
  have hkw : ∀ g, (Value.slice wo4 (es.length + 1) wc4).ownBlock = some g → g ≠ kb := fun g e e2 => by
    rcases hg4.at' g e with q | q
    · exact kb_ne hwY2 hB2 hF.s76 g q e2
    · have h1 := hB2.lt; omega
  have hsf : ∀ {t s n : Nat} {u : Value} {xs : List Value}, Y.ownsRow L t s u n xs → t ≠ 76 → (∀ g, u.ownBlock = some g → (Value.slice wo es.length wc).ownBlock ≠ some g) → (w4.setCell ⟨kb, cw, none⟩ (.slice wo4 (es.length + 1) wc4)).ownsRow L t s u n xs := fun hu h44 hts => by
    have h1 := ownsRow_same hu (fun g e => hb2.block g (ownsRow_lt hu e).2)
    have h2 := ownsRow_same h1 (fun g e => (Grew.chg hg4).block g (ownsRow_lt h1 e).2 (hts g e))
    exact ownsRow_same h2 (fun g e => (chg_setCell (w := w4) (g := kb) (k := cw) _).block g (ownsRow_lt h2 e).2 (fun e2 => kb_ne h2 hB4 h44 g e e2))
  have hsw : ∀ {n : Nat} {u : Value} {xs : List Value}, w.ownsRow L F.te F.se u n xs → (w4.setCell ⟨kb, cw, none⟩ (.slice wo4 (es.length + 1) wc4)).ownsRow L F.te F.se u n xs := fun hu => by
    have h1 := hsame hu hF.e76 (ty_ne hu hK.xi hF.es)
    exact hsf h1 hF.e76 (ty_ne h1 hwY hF.es)
  refine ⟨hBW, ⟨?xi, ?xw, fun e he => ?el, fun e he => ?ew, fun e he => ?ln, fun e he => ?gd, fun g e1 e2 => ?iw, ?dj⟩, ?chg, fun k hk => ?bl⟩
  case xi =>
    have := hsf hoY hF.s76 (fun g e1 e2 => hiw1 g e1 e2)
    simpa using this
  case xw =>
    have := ownsRow_same ho4 (fun g e => (chg_setCell (w := w4) (g := kb) (k := cw) (.slice wo4 (es.length + 1) wc4)).block g (ownsRow_lt ho4 e).2 (hkw g e))
    simpa using this
  case el =>
    rcases List.mem_append.1 he with q | q
    · exact hsw (hK.el e q)
    · rw [List.mem_singleton.1 q]
      exact hsw hl
  case ew =>
    rcases List.mem_append.1 he with q | q
    · exact hsw (hK.ew e q)
    · rw [List.mem_singleton.1 q]
      have h1 : w4.ownsRow L F.te F.se (.slice co n cc) n zs := ownsRow_same hoc (fun g e => (Grew.chg hg4).block g (ownsRow_lt hoc e).2 (fun e2 => (ty_ne hoc hwY2 hF.es) g e e2))
      exact ownsRow_same h1 (fun g e => (chg_setCell (w := w4) (g := kb) (k := cw) (.slice wo4 (es.length + 1) wc4)).block g (ownsRow_lt h1 e).2 (fun e2 => kb_ne h1 hB4 hF.e76 g e e2))
  case ln =>
    rcases List.mem_append.1 he with q | q
    · exact hK.ln e q
    · rw [List.mem_singleton.1 q]; exact hn
  case gd =>
    rcases List.mem_append.1 he with q | q
    · exact hK.gd e q
    · rw [List.mem_singleton.1 q]; exact hg
  case iw =>
    rcases hg4.at' g e2 with q | q
    · exact hiw1 g e1 q
    · have h1 := (ownsRow_lt hoY e1).2
      have h2 := hb2.size
      omega
  case dj =>
    refine List.pairwise_append.2 ⟨hK.dj, List.pairwise_singleton _ _, fun e he f hf g e1 e2 => ?_⟩
    rw [List.mem_singleton.1 hf] at e2
    exact hap e he g e2 e1
  case chg =>
    have a1 : Chg (fun k => k = kb ∨ (Value.slice io es.length ic).ownBlock = some k ∨ (Value.slice wo es.length wc).ownBlock = some k) w Y := hcY.mono (fun j _ e => by
      rcases e with e | e
      · exact .inl e
      · exact .inr (.inl e))
    exact ((a1.trans (Chg.ofBelow (fun _ => False) hb2) (fun _ _ e => e.elim)).trans (Grew.chg hg4) (fun j _ e => .inr (.inr e))).trans (chg_setCell (w := w4) (g := kb) (k := cw) _) (fun j _ e => .inl e)
  case bl =>
    have s1 := hcY.size
    have s2 := hb2.size
    rcases hk with q | q | ⟨x, hx, q⟩
    · rcases hg1.at' k q with q | q
      · exact .inl (.inl q)
      · exact .inr (.inr q)
    · rcases hg4.at' k q with q | q
      · exact .inl (.inr (.inl q))
      · exact .inr (.inr (by omega))
    · rcases List.mem_append.1 hx with hx | hx
      · exact .inl (.inr (.inr ⟨x, hx, q⟩))
      · rw [List.mem_singleton.1 hx] at q
        rcases q with q | q
        · exact .inr (.inl q)
        · have := (ownsRow_lt hoc0 q).1
          exact .inr (.inr (by omega))
structure LS where
  vI : Value
  vW : Value
  vR : Value
  vX : Value
  e : List LE
  r : List LE
def goodA (n : Nat) (zs : List Value) : Prop := ∃ l : List Ac, l.length = n ∧ zs = flatA l
def goodE (n : Nat) (zs : List Value) : Prop := ∃ l : List Ep, l.length = n ∧ zs = flatE l
/-- A shelf whose lists are left as they are. -/
structure KL (L kb : Nat) (s : LS) (w : World) : Prop where
  blk : Blk w kb #[.bool true, s.vI, s.vW, .slice none 0 0, s.vR, s.vX, .slice none 0 0] 76
  b : LM FA goodA L s.vI s.vW s.e w
  v : LM FE goodE L s.vR s.vX s.r w
  lk : L ≤ kb
def KLB (kb : Nat) (s : LS) (k : Nat) : Prop := k = kb ∨ LMB s.vI s.vW s.e k ∨ LMB s.vR s.vX s.r k
theorem KL.lt {L kb : Nat} {s : LS} {w : World} (h : KL L kb s w) {k : Nat} (hk : KLB kb s k) : L ≤ k ∧ k < w.heap.size := by
  rcases hk with rfl | e | e
  · exact ⟨h.lk, h.blk.lt⟩
  · exact h.b.lt e
  · exact h.v.lt e
theorem KL.frame {L kb : Nat} {s : LS} {w w2 : World} {B : Nat → Prop} (h : KL L kb s w) (hc : Chg B w w2) (hB : ∀ k, KLB kb s k → ¬ B k) : KL L kb s w2 :=
  ⟨hc.blk h.blk (hB kb (.inl rfl)), h.b.frame hc (fun k hk => hB k (.inr (.inl hk))), h.v.frame hc (fun k hk => hB k (.inr (.inr hk))), h.lk⟩
end Go.Proofs.Ytjojhhkbebddmaa.Lt
namespace Go.Proofs.Ytjojhhkbebddmaa.Lt
open Go.RowKit Go.PlainAid
set_option linter.unusedVariables false
set_option linter.unusedSimpArgs false
set_option maxRecDepth 100000 in
set_option maxHeartbeats 3200000 in
/-- An answer is kept: it is left as it is, beside what it was. -/
theorem put_lateA {L kb n : Nat} {s : LS} {l : Value} {zs : List Value} (w : World) (hK : KL L kb s w) (hl : w.ownsRow L 56 6 l n zs) (hg : goodA n zs) (hap : ∀ g, l.ownBlock = some g → ¬ KLB kb s g) (hn : n ≤ 1000000) (hel : s.e.length ≤ 1000000000000) :
    Calls Try.prog 54 #[.pointer (some ⟨kb, 0, none⟩), l] w fun r w' => r = .returned (.tuple #[]) ∧ ∃ s', KL L kb s' w' ∧ s'.e.length + s'.r.length ≤ s.e.length + s.r.length + 18 ∧ Chg (fun k => KLB kb s k ∨ l.ownBlock = some k) w w' ∧ ∀ k, KLB kb s' k → KLB kb s k ∨ l.ownBlock = some k ∨ w.heap.size ≤ k := by
  obtain ⟨lo, lc, rfl, _⟩ := own_slice hl
  obtain ⟨vI, vW, vR, vX, es, rs⟩ := s
  obtain ⟨io, ci, hii, _⟩ := own_slice hK.b.xi
  obtain ⟨wo, cw, hww, _⟩ := own_slice hK.b.xw
  simp only at hii hww hel
  obtain ⟨ne, hne⟩ : ∃ ne, ne = es.length := ⟨_, rfl⟩
  rw [← hne] at hii hww hel
  subst hii hww
  have hone : ∀ u ∈ zs, u.oneCell' = true := by obtain ⟨bs, _, rfl⟩ := hg; exact flatA_one bs
  obtain ⟨io1, ci1, w1, hr1, hB1, Y, hY, hBY, co, cc, w2, hr2, hB2, hB3, wo4, cw4, w4, hr4, hB4, W, hW, hBW, hLM, hcW, hbl⟩ := late_put (F := FA) (G := goodA) (cw := 2) (C0 := #[.bool true, .slice none 0 0, .slice none 0 0, .slice none 0 0, vR, vX, .slice none 0 0]) w FA.ok (by decide) hne hK.blk hK.b hl hg hone (fun e he g e1 e2 => hap g e1 (.inr (.inl (.inr (.inr ⟨e, he, .inl e2⟩))))) hn hel hK.lk
  have c0 : w.cell? ⟨kb, 0, none⟩ = some (.bool true) := hK.blk.cell 0
  have c1 : w.cell? ⟨kb, 1, none⟩ = some (.slice io ne ci) := hK.blk.cell 1
  have d1 : w1.cell? ⟨kb, 1, none⟩ = some (.slice io ne ci) := hB1.cell 1
  have f1 : w1.frozen? ⟨kb, 1, none⟩ = false := hB1.frozen 1
  have HF : Hid (∃ s', KL L kb s' W ∧ s'.e.length + s'.r.length ≤ es.length + rs.length + 18 ∧ Chg (fun k => KLB kb ⟨.slice io ne ci, .slice wo ne cw, vR, vX, es, rs⟩ k ∨ (Value.slice lo n lc).ownBlock = some k) w W ∧ ∀ k, KLB kb s' k → KLB kb ⟨.slice io ne ci, .slice wo ne cw, vR, vX, es, rs⟩ k ∨ (Value.slice lo n lc).ownBlock = some k ∨ w.heap.size ≤ k) := by
    refine ⟨⟨.slice io1 (ne + 1) ci1, .slice wo4 (ne + 1) cw4, vR, vX, es ++ [⟨.slice lo n lc, .slice co n cc, n, zs⟩], rs⟩, ⟨hBW, hLM, hK.v.other (H := FA) FE.ok (by decide) (by decide) hK.blk hK.b.xi hK.b.xw hcW, hK.lk⟩, by simp; omega, hcW.mono (fun k _ e => ?_), fun k hk => ?_⟩
    · rcases e with e | e | e
      · exact .inl (.inl e)
      · exact .inl (.inr (.inl (.inl e)))
      · exact .inl (.inr (.inl (.inr (.inl e))))
    · rcases hk with q | q | q
      · exact .inl (.inl q)
      · rcases hbl k q with q | q | q
        · exact .inl (.inr (.inl q))
        · exact .inr (.inl q)
        · exact .inr (.inr q)
      · exact .inl (.inr (.inr q))
  have HR1 : Hid _ := hr1
  have HR2 : Hid _ := hr2
  have HR4 : Hid _ := hr4
  have HEY : Hid (Y = w1.setCell ⟨kb, 1, none⟩ (.slice io1 (ne + 1) ci1)) := hY
  have HEW : Hid (W = w4.setCell ⟨kb, 2, none⟩ (.slice wo4 (ne + 1) cw4)) := hW
  have HBY : Hid (Y.cell? ⟨kb, 2, none⟩ = some (.slice wo ne cw)) := hBY.cell 2
  have HB2 : Hid (w2.cell? ⟨kb, 2, none⟩ = some (.slice wo ne cw)) := hB2.cell 2
  have HB3 : Hid ((w2.alloc (.cells #[.slice co n cc] 52)).cell? ⟨kb, 2, none⟩ = some (.slice wo ne cw)) := hB3.cell 2
  have HB4 : Hid (w4.cell? ⟨kb, 2, none⟩ = some (.slice wo ne cw)) := hB4.cell 2
  have HF4 : Hid (w4.frozen? ⟨kb, 2, none⟩ = false) := hB4.frozen 2
  clear hl hK hap hr1 hr2 hr4 hY hW hBY hB1 hB2 hB3 hB4 hBW hLM hcW hbl hg hone hne hn
  go_enter Try.func54, Try.ntmps54
  go_upto_region 2 with (at_builtin; refine wpList_runs rfl _ _ 73 rfl rfl rfl HR1.out ?_)
  rw [← HEY.out]
  clear c0 c1 d1 f1 HR1 HEY
  go_wp2_with fail
  rename_i K hK
  try rw [show ∀ a : Act, a.put none undef = a from fun _ => rfl]
  refine wp_region_mix (fun wz => wz.cell? ⟨kb, 2, none⟩ = some (.slice wo ne cw)) (fun i => i == 6 || i == 7 || i == 8 || i == 11) 11 (by kernel_rfl) rfl (by kernel_rfl) (by kernel_rfl) (by kernel_rfl) ?_
  refine withFrP (N := 42) rfl ?_
  intro f0 F0 hff
  have e0 : f0 0 = Value.pointer (some ⟨kb, 0, none⟩) := hff 0
  have e1 : f0 1 = Value.slice lo n lc := hff 1
  clear hff
  have HCC : (fun wz => wz.cell? ⟨kb, 2, none⟩ = some (.slice wo ne cw)) (({ Y with drawn := Y.drawn + 1 } : World)) := HBY.out
  have HC2 : (fun wz => wz.cell? ⟨kb, 2, none⟩ = some (.slice wo ne cw)) w2 := HB2.out
  have HC3 : (fun wz => wz.cell? ⟨kb, 2, none⟩ = some (.slice wo ne cw)) (w2.alloc (.cells #[.slice co n cc] 52)) := HB3.out
  have HC6 : (fun wz => wz.cell? ⟨kb, 2, none⟩ = some (.slice wo ne cw)) w4 := HB4.out
  refine lyp F0 rfl HCC rfl (by omega) (wanted_none rfl) (v := Value.pointer (some ⟨kb, 0, none⟩)) (fun wr hwr => by simp only [execOp, (F0.eval 0 (by omega)).trans (show _ = Value.pointer (some ⟨kb, 0, none⟩) from by simp [upd, e0, e1])]; first | rfl | simp [go_sem]) fun Fp1 => ?_
  refine lyp Fp1 rfl HCC rfl (by omega) (wanted_none rfl) (v := Value.pointer (some ⟨kb, 0, none⟩)) (fun wr hwr => by simp only [execOp, (Fp1.eval 0 (by omega)).trans (show _ = Value.pointer (some ⟨kb, 0, none⟩) from by simp [upd, e0, e1])]; first | rfl | simp [go_sem]) fun Fp2 => ?_
  refine lyp Fp2 rfl HCC rfl (by omega) (wanted_none rfl) (v := Value.pointer (some ⟨kb, 0, none⟩)) (fun wr hwr => by simp only [execOp, (Fp2.eval 20 (by omega)).trans (show _ = Value.pointer (some ⟨kb, 0, none⟩) from by simp [upd, e0, e1])]; simp [go_sem]) fun Fp3 => ?_
  refine lyp Fp3 rfl HCC rfl (by omega) (wanted_none rfl) (v := Value.pointer (some ⟨kb, 2, none⟩)) (fun wr hwr => by simp only [execOp, (Fp3.eval 21 (by omega)).trans (show _ = Value.pointer (some ⟨kb, 0, none⟩) from by simp [upd, e0, e1])]; simp [go_sem]) fun Fp4 => ?_
  refine lyp Fp4 rfl HCC rfl (by omega) (wanted_none rfl) (v := Value.slice wo ne cw) (fun wr hwr => by simp only [execOp, (Fp4.eval 22 (by omega)).trans (show _ = Value.pointer (some ⟨kb, 2, none⟩) from by simp [upd, e0, e1])]; simp [go_sem, (show wr.cell? ⟨kb, 2, none⟩ = some (.slice wo ne cw) from hwr)]) fun Fp5 => ?_
  refine lyp Fp5 rfl HCC rfl (by omega) (wanted_none rfl) (v := Value.slice lo n lc) (fun wr hwr => by simp only [execOp, (Fp5.eval 1 (by omega)).trans (show _ = Value.slice lo n lc from by simp [upd, e0, e1])]; first | rfl | simp [go_sem]) fun Fp6 => ?_
  refine lep Fp6 rfl HCC rfl (by omega) (wanted_none rfl) (v := Value.slice co n cc) (w1 := w2) (by simp only [execOp, resolve, invoke, builtin, List.map_toArray, List.map_cons, List.map_nil, (Fp6.eval 24 (by omega)).trans (show _ = Value.slice lo n lc from by simp [upd, e0, e1])]; simp only [Sem.run_bind, Sem.run_pure, Result.andThen_ok, Act.eval, HR2.out]; try rfl) fun Fp7 => ?_
  refine lep Fp7 rfl HC2 rfl (by omega) (wanted_none rfl) (v := Value.slice (some ⟨w2.heap.size, 0, none⟩) 1 1) (w1 := (w2.alloc (.cells #[.slice co n cc] 52))) (by simp only [execOp, List.map_toArray, List.map_cons, List.map_nil, (Fp7.eval 25 (by omega)).trans (show _ = Value.slice co n cc from by simp [upd, e0, e1])]; simp [go_sem]) fun Fp8 => ?_
  refine lep Fp8 rfl HC3 rfl (by omega) (wanted_none rfl) (v := Value.slice wo4 (ne + 1) cw4) (w1 := w4) (by simp only [execOp, resolve, invoke, builtin, List.map_toArray, List.map_cons, List.map_nil, (Fp8.eval 23 (by omega)).trans (show _ = Value.slice wo ne cw from by simp [upd, e0, e1]), (Fp8.eval 26 (by omega)).trans (show _ = Value.slice (some ⟨w2.heap.size, 0, none⟩) 1 1 from by simp [upd, e0, e1])]; simp only [Sem.run_bind, Sem.run_pure, Result.andThen_ok, HR4.out]; try rfl) fun Fp9 => ?_
  refine lyp Fp9 rfl HC6 rfl (by omega) (wanted_none rfl) (v := Value.pointer (some ⟨kb, 0, none⟩)) (fun wr hwr => by simp only [execOp, (Fp9.eval 19 (by omega)).trans (show _ = Value.pointer (some ⟨kb, 0, none⟩) from by simp [upd, e0, e1])]; simp [go_sem]) fun Fp10 => ?_
  refine lyp Fp10 rfl HC6 rfl (by omega) (wanted_none rfl) (v := Value.pointer (some ⟨kb, 2, none⟩)) (fun wr hwr => by simp only [execOp, (Fp10.eval 28 (by omega)).trans (show _ = Value.pointer (some ⟨kb, 0, none⟩) from by simp [upd, e0, e1])]; simp [go_sem]) fun Fp11 => ?_
  refine lst rfl HC6 rfl (wanted_none rfl) (w1 := w4.setCell ⟨kb, 2, none⟩ (.slice wo4 (ne + 1) cw4)) (by simp only [execOp, (Fp11.eval 29 (by omega)).trans (show _ = Value.pointer (some ⟨kb, 2, none⟩) from by simp [upd, e0, e1]), (Fp11.eval 27 (by omega)).trans (show _ = Value.slice wo4 (ne + 1) cw4 from by simp [upd, e0, e1])]; simp [go_sem, HF4.out, show w4.cell? ⟨kb, 2, none⟩ = some (.slice wo ne cw) from HC6]) ?_
  refine ⟨fun h => by omega, ?_⟩
  rw [← HEW.out]
  refine hK _ _ ?_
  clear F0 Fp1 Fp2 Fp3 Fp4 Fp5 Fp6 Fp7 Fp8 Fp9 Fp10 Fp11 e0 e1 HCC HC2 HC3 HC6
  simp only [Act.put, List.setIfInBounds_toArray, List.set_cons_succ, List.set_cons_zero]
  clear HR2 HR4 HEW HBY HB2 HB3 HB4 HF4
  go_wp2_with fail
  refine bodyPost_ret (results_none rfl _ _ _) rfl ?_
  exact ⟨rfl, HF.out⟩
end Go.Proofs.Ytjojhhkbebddmaa.Lt
namespace Go.Proofs.Ytjojhhkbebddmaa.Lt
open Go.RowKit Go.PlainAid
set_option linter.unusedVariables false
set_option linter.unusedSimpArgs false
set_option maxRecDepth 100000 in
set_option maxHeartbeats 3200000 in
/-- An answer is kept: it is left as it is, beside what it was. -/
theorem put_lateE {L kb n : Nat} {s : LS} {l : Value} {zs : List Value} (w : World) (hK : KL L kb s w) (hl : w.ownsRow L 49 2 l n zs) (hg : goodE n zs) (hap : ∀ g, l.ownBlock = some g → ¬ KLB kb s g) (hn : n ≤ 1000000) (hel : s.r.length ≤ 1000000000000) :
    Calls Try.prog 79 #[.pointer (some ⟨kb, 0, none⟩), l] w fun r w' => r = .returned (.tuple #[]) ∧ ∃ s', KL L kb s' w' ∧ s'.e.length + s'.r.length ≤ s.e.length + s.r.length + 18 ∧ Chg (fun k => KLB kb s k ∨ l.ownBlock = some k) w w' ∧ ∀ k, KLB kb s' k → KLB kb s k ∨ l.ownBlock = some k ∨ w.heap.size ≤ k := by
  obtain ⟨lo, lc, rfl, _⟩ := own_slice hl
  obtain ⟨vI, vW, vR, vX, es, rs⟩ := s
  obtain ⟨io, ci, hii, _⟩ := own_slice hK.v.xi
  obtain ⟨wo, cw, hww, _⟩ := own_slice hK.v.xw
  simp only at hii hww hel
  obtain ⟨ne, hne⟩ : ∃ ne, ne = rs.length := ⟨_, rfl⟩
  rw [← hne] at hii hww hel
  subst hii hww
  have hone : ∀ u ∈ zs, u.oneCell' = true := by obtain ⟨bs, _, rfl⟩ := hg; exact flatE_one bs
  obtain ⟨io1, ci1, w1, hr1, hB1, Y, hY, hBY, co, cc, w2, hr2, hB2, hB3, wo4, cw4, w4, hr4, hB4, W, hW, hBW, hLM, hcW, hbl⟩ := late_put (F := FE) (G := goodE) (cw := 5) (C0 := #[.bool true, vI, vW, .slice none 0 0, .slice none 0 0, .slice none 0 0, .slice none 0 0]) w FE.ok (by decide) hne hK.blk hK.v hl hg hone (fun e he g e1 e2 => hap g e1 (.inr (.inr (.inr (.inr ⟨e, he, .inl e2⟩))))) hn hel hK.lk
  have c0 : w.cell? ⟨kb, 0, none⟩ = some (.bool true) := hK.blk.cell 0
  have c1 : w.cell? ⟨kb, 4, none⟩ = some (.slice io ne ci) := hK.blk.cell 4
  have d1 : w1.cell? ⟨kb, 4, none⟩ = some (.slice io ne ci) := hB1.cell 4
  have f1 : w1.frozen? ⟨kb, 4, none⟩ = false := hB1.frozen 4
  have HF : Hid (∃ s', KL L kb s' W ∧ s'.e.length + s'.r.length ≤ es.length + rs.length + 18 ∧ Chg (fun k => KLB kb ⟨vI, vW, .slice io ne ci, .slice wo ne cw, es, rs⟩ k ∨ (Value.slice lo n lc).ownBlock = some k) w W ∧ ∀ k, KLB kb s' k → KLB kb ⟨vI, vW, .slice io ne ci, .slice wo ne cw, es, rs⟩ k ∨ (Value.slice lo n lc).ownBlock = some k ∨ w.heap.size ≤ k) := by
    refine ⟨⟨vI, vW, .slice io1 (ne + 1) ci1, .slice wo4 (ne + 1) cw4, es, rs ++ [⟨.slice lo n lc, .slice co n cc, n, zs⟩]⟩, ⟨hBW, hK.b.other (H := FE) FA.ok (by decide) (by decide) hK.blk hK.v.xi hK.v.xw hcW, hLM, hK.lk⟩, by simp; omega, hcW.mono (fun k _ e => ?_), fun k hk => ?_⟩
    · rcases e with e | e | e
      · exact .inl (.inl e)
      · exact .inl (.inr (.inr (.inl e)))
      · exact .inl (.inr (.inr (.inr (.inl e))))
    · rcases hk with q | q | q
      · exact .inl (.inl q)
      · exact .inl (.inr (.inl q))
      · rcases hbl k q with q | q | q
        · exact .inl (.inr (.inr q))
        · exact .inr (.inl q)
        · exact .inr (.inr q)
  have HR1 : Hid _ := hr1
  have HR2 : Hid _ := hr2
  have HR4 : Hid _ := hr4
  have HEY : Hid (Y = w1.setCell ⟨kb, 4, none⟩ (.slice io1 (ne + 1) ci1)) := hY
  have HEW : Hid (W = w4.setCell ⟨kb, 5, none⟩ (.slice wo4 (ne + 1) cw4)) := hW
  have HBY : Hid (Y.cell? ⟨kb, 5, none⟩ = some (.slice wo ne cw)) := hBY.cell 5
  have HB2 : Hid (w2.cell? ⟨kb, 5, none⟩ = some (.slice wo ne cw)) := hB2.cell 5
  have HB3 : Hid ((w2.alloc (.cells #[.slice co n cc] 64)).cell? ⟨kb, 5, none⟩ = some (.slice wo ne cw)) := hB3.cell 5
  have HB4 : Hid (w4.cell? ⟨kb, 5, none⟩ = some (.slice wo ne cw)) := hB4.cell 5
  have HF4 : Hid (w4.frozen? ⟨kb, 5, none⟩ = false) := hB4.frozen 5
  clear hl hK hap hr1 hr2 hr4 hY hW hBY hB1 hB2 hB3 hB4 hBW hLM hcW hbl hg hone hne hn
  go_enter Try.func79, Try.ntmps79
  go_upto_region 2 with (at_builtin; refine wpList_runs rfl _ _ 74 rfl rfl rfl HR1.out ?_)
  rw [← HEY.out]
  clear c0 c1 d1 f1 HR1 HEY
  go_wp2_with fail
  rename_i K hK
  try rw [show ∀ a : Act, a.put none undef = a from fun _ => rfl]
  refine wp_region_mix (fun wz => wz.cell? ⟨kb, 5, none⟩ = some (.slice wo ne cw)) (fun i => i == 6 || i == 7 || i == 8 || i == 11) 11 (by kernel_rfl) rfl (by kernel_rfl) (by kernel_rfl) (by kernel_rfl) ?_
  refine withFrP (N := 42) rfl ?_
  intro f0 F0 hff
  have e0 : f0 0 = Value.pointer (some ⟨kb, 0, none⟩) := hff 0
  have e1 : f0 1 = Value.slice lo n lc := hff 1
  clear hff
  have HCC : (fun wz => wz.cell? ⟨kb, 5, none⟩ = some (.slice wo ne cw)) (({ Y with drawn := Y.drawn + 1 } : World)) := HBY.out
  have HC2 : (fun wz => wz.cell? ⟨kb, 5, none⟩ = some (.slice wo ne cw)) w2 := HB2.out
  have HC3 : (fun wz => wz.cell? ⟨kb, 5, none⟩ = some (.slice wo ne cw)) (w2.alloc (.cells #[.slice co n cc] 64)) := HB3.out
  have HC6 : (fun wz => wz.cell? ⟨kb, 5, none⟩ = some (.slice wo ne cw)) w4 := HB4.out
  refine lyp F0 rfl HCC rfl (by omega) (wanted_none rfl) (v := Value.pointer (some ⟨kb, 0, none⟩)) (fun wr hwr => by simp only [execOp, (F0.eval 0 (by omega)).trans (show _ = Value.pointer (some ⟨kb, 0, none⟩) from by simp [upd, e0, e1])]; first | rfl | simp [go_sem]) fun Fp1 => ?_
  refine lyp Fp1 rfl HCC rfl (by omega) (wanted_none rfl) (v := Value.pointer (some ⟨kb, 0, none⟩)) (fun wr hwr => by simp only [execOp, (Fp1.eval 0 (by omega)).trans (show _ = Value.pointer (some ⟨kb, 0, none⟩) from by simp [upd, e0, e1])]; first | rfl | simp [go_sem]) fun Fp2 => ?_
  refine lyp Fp2 rfl HCC rfl (by omega) (wanted_none rfl) (v := Value.pointer (some ⟨kb, 0, none⟩)) (fun wr hwr => by simp only [execOp, (Fp2.eval 20 (by omega)).trans (show _ = Value.pointer (some ⟨kb, 0, none⟩) from by simp [upd, e0, e1])]; simp [go_sem]) fun Fp3 => ?_
  refine lyp Fp3 rfl HCC rfl (by omega) (wanted_none rfl) (v := Value.pointer (some ⟨kb, 5, none⟩)) (fun wr hwr => by simp only [execOp, (Fp3.eval 21 (by omega)).trans (show _ = Value.pointer (some ⟨kb, 0, none⟩) from by simp [upd, e0, e1])]; simp [go_sem]) fun Fp4 => ?_
  refine lyp Fp4 rfl HCC rfl (by omega) (wanted_none rfl) (v := Value.slice wo ne cw) (fun wr hwr => by simp only [execOp, (Fp4.eval 22 (by omega)).trans (show _ = Value.pointer (some ⟨kb, 5, none⟩) from by simp [upd, e0, e1])]; simp [go_sem, (show wr.cell? ⟨kb, 5, none⟩ = some (.slice wo ne cw) from hwr)]) fun Fp5 => ?_
  refine lyp Fp5 rfl HCC rfl (by omega) (wanted_none rfl) (v := Value.slice lo n lc) (fun wr hwr => by simp only [execOp, (Fp5.eval 1 (by omega)).trans (show _ = Value.slice lo n lc from by simp [upd, e0, e1])]; first | rfl | simp [go_sem]) fun Fp6 => ?_
  refine lep Fp6 rfl HCC rfl (by omega) (wanted_none rfl) (v := Value.slice co n cc) (w1 := w2) (by simp only [execOp, resolve, invoke, builtin, List.map_toArray, List.map_cons, List.map_nil, (Fp6.eval 24 (by omega)).trans (show _ = Value.slice lo n lc from by simp [upd, e0, e1])]; simp only [Sem.run_bind, Sem.run_pure, Result.andThen_ok, Act.eval, HR2.out]; try rfl) fun Fp7 => ?_
  refine lep Fp7 rfl HC2 rfl (by omega) (wanted_none rfl) (v := Value.slice (some ⟨w2.heap.size, 0, none⟩) 1 1) (w1 := (w2.alloc (.cells #[.slice co n cc] 64))) (by simp only [execOp, List.map_toArray, List.map_cons, List.map_nil, (Fp7.eval 25 (by omega)).trans (show _ = Value.slice co n cc from by simp [upd, e0, e1])]; simp [go_sem]) fun Fp8 => ?_
  refine lep Fp8 rfl HC3 rfl (by omega) (wanted_none rfl) (v := Value.slice wo4 (ne + 1) cw4) (w1 := w4) (by simp only [execOp, resolve, invoke, builtin, List.map_toArray, List.map_cons, List.map_nil, (Fp8.eval 23 (by omega)).trans (show _ = Value.slice wo ne cw from by simp [upd, e0, e1]), (Fp8.eval 26 (by omega)).trans (show _ = Value.slice (some ⟨w2.heap.size, 0, none⟩) 1 1 from by simp [upd, e0, e1])]; simp only [Sem.run_bind, Sem.run_pure, Result.andThen_ok, HR4.out]; try rfl) fun Fp9 => ?_
  refine lyp Fp9 rfl HC6 rfl (by omega) (wanted_none rfl) (v := Value.pointer (some ⟨kb, 0, none⟩)) (fun wr hwr => by simp only [execOp, (Fp9.eval 19 (by omega)).trans (show _ = Value.pointer (some ⟨kb, 0, none⟩) from by simp [upd, e0, e1])]; simp [go_sem]) fun Fp10 => ?_
  refine lyp Fp10 rfl HC6 rfl (by omega) (wanted_none rfl) (v := Value.pointer (some ⟨kb, 5, none⟩)) (fun wr hwr => by simp only [execOp, (Fp10.eval 28 (by omega)).trans (show _ = Value.pointer (some ⟨kb, 0, none⟩) from by simp [upd, e0, e1])]; simp [go_sem]) fun Fp11 => ?_
  refine lst rfl HC6 rfl (wanted_none rfl) (w1 := w4.setCell ⟨kb, 5, none⟩ (.slice wo4 (ne + 1) cw4)) (by simp only [execOp, (Fp11.eval 29 (by omega)).trans (show _ = Value.pointer (some ⟨kb, 5, none⟩) from by simp [upd, e0, e1]), (Fp11.eval 27 (by omega)).trans (show _ = Value.slice wo4 (ne + 1) cw4 from by simp [upd, e0, e1])]; simp [go_sem, HF4.out, show w4.cell? ⟨kb, 5, none⟩ = some (.slice wo ne cw) from HC6]) ?_
  refine ⟨fun h => by omega, ?_⟩
  rw [← HEW.out]
  refine hK _ _ ?_
  clear F0 Fp1 Fp2 Fp3 Fp4 Fp5 Fp6 Fp7 Fp8 Fp9 Fp10 Fp11 e0 e1 HCC HC2 HC3 HC6
  simp only [Act.put, List.setIfInBounds_toArray, List.set_cons_succ, List.set_cons_zero]
  clear HR2 HR4 HEW HBY HB2 HB3 HB4 HF4
  go_wp2_with fail
  refine bodyPost_ret (results_none rfl _ _ _) rfl ?_
  exact ⟨rfl, HF.out⟩
end Go.Proofs.Ytjojhhkbebddmaa.Lt
namespace Go.Proofs.Ytjojhhkbebddmaa.Lt
open Go.RowKit Go.PlainAid
set_option linter.unusedVariables false
set_option linter.unusedSimpArgs false
theorem neq56_self (a b c d e f : Int) (W : World) : (binOp .neq 56 (.agg #[.int .i64 a, .int .i64 b, .int .i64 c, .int .i64 d, .int .i64 e, .int .i64 f]) (.agg #[.int .i64 a, .int .i64 b, .int .i64 c, .int .i64 d, .int .i64 e, .int .i64 f])).run Try.prog W = .ok (.bool false) W := by
  simp [go_sem]
set_option maxRecDepth 100000 in
set_option maxHeartbeats 6400000 in
theorem sameActs_any {M1 M2 : Nat} {v1 v2 : Value} {l : List Ac} (w : World) (h1 : w.ownsRow M1 56 6 v1 l.length (flatA l)) (h2 : w.ownsRow M2 56 6 v2 l.length (flatA l)) : Calls Try.prog 80 #[v1, v2] w fun e w' => e = .returned (.bool true) ∧ ∃ z, w' = w.drewN z := by
  obtain ⟨ao1, cap1, hv1, hc1, hm1, hrd1⟩ := own_read h1
  obtain ⟨ao2, cap2, hv2, hc2, hm2, hrd2⟩ := own_read h2
  obtain ⟨n, hn⟩ : ∃ n, n = l.length := ⟨_, rfl⟩
  have HN : Hid (n = l.length) := hn
  have HR1 : Hid _ := hrd1
  have HR2 : Hid _ := hrd2
  have HS := neq56_self
  unfold maxLen at hm1 hm2
  rw [← hn] at hv1 hv2 hc1 hc2
  clear h1 h2 hrd1 hrd2 hn
  subst hv1 hv2
  go_enter Try.func80, Try.ntmps80
  go_wp2_with fail
  go_loopw [5] (fun i wr => ∃ k z : Nat, k ≤ n ∧ i = .int .i64 (k : Int) ∧ wr = w.drewN z) (fun i _ => n - (intOf i).toNat)
  case atStart => exact ⟨0, 0, Nat.zero_le _, rfl, rfl⟩
  case round =>
    obtain ⟨k, z, hk, rfl, rfl⟩ := hrel
    by_cases hlt : k < n
    · obtain ⟨a, ha⟩ : ∃ a, l[k]? = some a := ⟨_, List.getElem?_eq_getElem (by rw [← HN.out]; exact hlt)⟩
      obtain ⟨q1, rfl, _, _, hcell1⟩ := HR1.out (by have := HN.out; omega)
      obtain ⟨q2, rfl, _, _, hcell2⟩ := HR2.out (by have := HN.out; omega)
      obtain ⟨f0, f1, f2, f3, f4, f5⟩ := flatA_at ha
      have a0 := hcell1 _ _ f0
      have a1 := hcell1 _ _ f1
      have a2 := hcell1 _ _ f2
      have a3 := hcell1 _ _ f3
      have a4 := hcell1 _ _ f4
      have a5 := hcell1 _ _ f5
      have b0 := hcell2 _ _ f0
      have b1 := hcell2 _ _ f1
      have b2 := hcell2 _ _ f2
      have b3 := hcell2 _ _ f3
      have b4 := hcell2 _ _ f4
      have b5 := hcell2 _ _ f5
      obtain ⟨kd, to, ⟨er, ek⟩, ⟨pr, pk⟩⟩ := a
      simp only at a0 a1 a2 a3 a4 a5 b0 b1 b2 b3 b4 b5
      clear f0 f1 f2 f3 f4 f5 hcell1 hcell2 ha
      go_wp2_with fail
      go_quiet (fail)
      go_wp2_with fail
      go_roundw
      case rel => exact ⟨k + 1, _, by omega, by go_num, rfl⟩
      case measure => simp [intOf]; omega
    · obtain rfl : k = n := by omega
      go_wp2_with fail
      go_ret
      exact ⟨rfl, _, rfl⟩
end Go.Proofs.Ytjojhhkbebddmaa.Lt
namespace Go.Proofs.Ytjojhhkbebddmaa.Lt
open Go.RowKit Go.PlainAid
set_option linter.unusedVariables false
set_option linter.unusedSimpArgs false
theorem dj_at {es : List LE} (h : es.Pairwise fun e f => ∀ g, e.l.ownBlock = some g → f.l.ownBlock ≠ some g) {i j : Nat} {e f : LE} (he : es[i]? = some e) (hf : es[j]? = some f) (hne : i ≠ j) (g : Nat) (h1 : e.l.ownBlock = some g) : f.l.ownBlock ≠ some g := by
  have hi := (List.getElem?_eq_some_iff.1 he)
  have hj := (List.getElem?_eq_some_iff.1 hf)
  obtain ⟨hi1, rfl⟩ := hi
  obtain ⟨hj1, rfl⟩ := hj
  rcases Nat.lt_or_gt_of_ne hne with hlt | hlt
  · exact List.pairwise_iff_getElem.1 h i j hi1 hj1 hlt g h1
  · exact fun h2 => List.pairwise_iff_getElem.1 h j i hj1 hi1 hlt g h2 h1
/-- Of one kind the first i are written full. -/
structure FM (F : Fam) (L : Nat) (vI : Value) (es : List LE) (i : Nat) (wr : World) : Prop where
  xi : wr.ownsRow L F.ts 1 vI es.length (es.map LE.l)
  fu : ∀ (a : Nat) (e : LE), es[a]? = some e → a < i → wr.ownsRow L F.te F.se e.l e.n (full F e.n a)
  re : ∀ (a : Nat) (e : LE), es[a]? = some e → i ≤ a → wr.ownsRow L F.te F.se e.l e.n e.zs
theorem FM.step {F : Fam} (hF : F.Ok) {L : Nat} {vI : Value} {es : List LE} {i : Nat} {wr w2 : World} (h : FM F L vI es i wr) (hdj : es.Pairwise fun e f => ∀ g, e.l.ownBlock = some g → f.l.ownBlock ≠ some g) {e : LE} (he : es[i]? = some e) (hr : w2.ownsRow L F.te F.se e.l e.n (full F e.n i)) (hc : Chg (fun k => e.l.ownBlock = some k) wr w2) : FM F L vI es (i + 1) w2 := by
  have hre := h.re i e he (Nat.le_refl _)
  refine ⟨ownsRow_same h.xi (fun g e2 => hc.block g (ownsRow_lt h.xi e2).2 (fun e3 => ty_ne h.xi hre (Ne.symm hF.es) g e2 e3)), fun a f hf ha => ?_, fun a f hf ha => ?_⟩
  · by_cases hij : a = i
    · subst hij
      rw [he] at hf
      cases hf
      exact hr
    · have hq := h.fu a f hf (by omega)
      exact ownsRow_same hq (fun g e2 => hc.block g (ownsRow_lt hq e2).2 (fun e3 => dj_at hdj hf he hij g e2 e3))
  · have hq := h.re a f hf (by omega)
    exact ownsRow_same hq (fun g e2 => hc.block g (ownsRow_lt hq e2).2 (fun e3 => dj_at hdj hf he (by omega) g e2 e3))
theorem FM.frame {F : Fam} {L : Nat} {vI : Value} {es : List LE} {i : Nat} {wr w2 : World} {B : Nat → Prop} (h : FM F L vI es i wr) (hc : Chg B wr w2) (hB : ∀ {t s n : Nat} {u : Value} {xs : List Value}, (t = F.ts ∨ t = F.te) → wr.ownsRow L t s u n xs → ∀ g, u.ownBlock = some g → ¬ B g) : FM F L vI es i w2 := by
  have hs : ∀ {t s n : Nat} {u : Value} {xs : List Value}, (t = F.ts ∨ t = F.te) → wr.ownsRow L t s u n xs → w2.ownsRow L t s u n xs := fun ht hq => ownsRow_same hq (fun g e => hc.block g (ownsRow_lt hq e).2 (hB ht hq g e))
  exact ⟨hs (.inl rfl) h.xi, fun a f hf ha => hs (.inr rfl) (h.fu a f hf ha), fun a f hf ha => hs (.inr rfl) (h.re a f hf ha)⟩
def LO (s : LS) (k : Nat) : Prop := (∃ e ∈ s.e, e.l.ownBlock = some k) ∨ ∃ e ∈ s.r, e.l.ownBlock = some k
@[reducible] def ES0 : ES := ⟨.slice none 0 0, .slice none 0 0, .slice none 0 0, .slice none 0 0, [], []⟩
theorem KB0 {tb k : Nat} (h : KB tb ES0 k) : k = tb := by
  rcases h with q | (q | q | ⟨x, hx, _⟩) | (q | q | ⟨x, hx, _⟩)
  · exact q
  · cases q
  · cases q
  · cases hx
  · cases q
  · cases q
  · cases hx
theorem KE.new {L kb : Nat} {w : World} (h : Blk w kb #[.bool false, .slice none 0 0, .slice none 0 0, .slice none 0 0, .slice none 0 0, .slice none 0 0, .slice none 0 0] 76) (hL : L ≤ kb) : KE L kb ES0 w :=
  ⟨h, ⟨World.ownsRow_nil _ _ _ _, World.ownsRow_nil _ _ _ _, (fun e he => by cases he)⟩, ⟨World.ownsRow_nil _ _ _ _, World.ownsRow_nil _ _ _ _, (fun e he => by cases he)⟩, (fun g e => by cases e), (fun e he => by cases he), (fun e he => by cases he), hL⟩
/-- The first i and j are written full. -/
structure LF (L kb : Nat) (s : LS) (w : World) (tb i j : Nat) (wr : World) : Prop where
  blk : Blk wr kb #[.bool true, s.vI, s.vW, .slice none 0 0, s.vR, s.vX, .slice none 0 0] 76
  b : FM FA L s.vI s.e i wr
  v : FM FE L s.vR s.r j wr
  tk : KE L tb ES0 wr
  chg : Chg (LO s) w wr
  lt : ∀ k, LO s k → k < w.heap.size
  tb : w.heap.size ≤ tb
/-- Of one kind the first i are held. -/
structure HM (F : Fam) (L : Nat) (vI : Value) (es : List LE) (i : Nat) (wr : World) : Prop where
  xi : wr.ownsRow L F.ts 1 vI es.length (es.map LE.l)
  fu : ∀ (a : Nat) (e : LE), es[a]? = some e → i ≤ a → wr.ownsRow L F.te F.se e.l e.n (full F e.n a)
theorem HM.frame {F : Fam} {L : Nat} {vI : Value} {es : List LE} {i i2 : Nat} {wr w2 : World} {B : Nat → Prop} (h : HM F L vI es i wr) (hi : i ≤ i2) (hc : Chg B wr w2) (h1 : ∀ g, vI.ownBlock = some g → ¬ B g) (h2 : ∀ (a : Nat) (e : LE), es[a]? = some e → i2 ≤ a → ∀ g, e.l.ownBlock = some g → ¬ B g) : HM F L vI es i2 w2 :=
  ⟨ownsRow_same h.xi (fun g e => hc.block g (ownsRow_lt h.xi e).2 (h1 g e)), fun a f hf ha => by have hq := h.fu a f hf (by omega); exact ownsRow_same hq (fun g e => hc.block g (ownsRow_lt hq e).2 (h2 a f hf ha g e))⟩
/-- The first i and j are held. -/
structure LH (L kb : Nat) (s : LS) (w : World) (tb i j : Nat) (t : ES) (wr : World) : Prop where
  blk : Blk wr kb #[.bool true, s.vI, s.vW, .slice none 0 0, s.vR, s.vX, .slice none 0 0] 76
  b : HM FA L s.vI s.e i wr
  v : HM FE L s.vR s.r j wr
  tk : KE L tb t wr
  cn1 : t.e.length ≤ 18 * i
  cn2 : t.r.length ≤ 18 * j
  kb' : ∀ k, KB tb t k → w.heap.size ≤ k ∨ (∃ (a : Nat) (e : LE), s.e[a]? = some e ∧ a < i ∧ e.l.ownBlock = some k) ∨ ∃ (a : Nat) (e : LE), s.r[a]? = some e ∧ a < j ∧ e.l.ownBlock = some k
  chg : Chg (LO s) w wr
  lt : ∀ k, LO s k → k < w.heap.size
/-- What the walk knows of the shelf ahead of it. -/
structure LK (L kb : Nat) (s : LS) (w : World) : Prop where
  de : s.e.Pairwise fun e f => ∀ g, e.l.ownBlock = some g → f.l.ownBlock ≠ some g
  dr : s.r.Pairwise fun e f => ∀ g, e.l.ownBlock = some g → f.l.ownBlock ≠ some g
  xr : ∀ e ∈ s.e, ∀ f ∈ s.r, ∀ g, e.l.ownBlock = some g → f.l.ownBlock ≠ some g
  kl : kb < w.heap.size
  vI : ∀ k, s.vI.ownBlock = some k → k < w.heap.size
  vR : ∀ k, s.vR.ownBlock = some k → k < w.heap.size
  lo : ∀ k, LO s k → k ≠ kb ∧ s.vI.ownBlock ≠ some k ∧ s.vR.ownBlock ≠ some k
theorem KL.lk' {L kb : Nat} {s : LS} {w : World} (hK : KL L kb s w) : LK L kb s w :=
  ⟨hK.b.dj, hK.v.dj, fun e he f hf => ty_ne (hK.b.el e he) (hK.v.el f hf) (by decide), hK.blk.lt, fun k hk => (ownsRow_lt hK.b.xi hk).2, fun k hk => (ownsRow_lt hK.v.xi hk).2, fun k h => by
    rcases h with ⟨e, he, hk⟩ | ⟨e, he, hk⟩
    · exact ⟨kb_ne (hK.b.el e he) hK.blk (by decide) k hk, ty_ne (hK.b.el e he) hK.b.xi (by decide) k hk, ty_ne (hK.b.el e he) hK.v.xi (by decide) k hk⟩
    · exact ⟨kb_ne (hK.v.el e he) hK.blk (by decide) k hk, ty_ne (hK.v.el e he) hK.b.xi (by decide) k hk, ty_ne (hK.v.el e he) hK.v.xi (by decide) k hk⟩⟩
theorem LF.held {L kb : Nat} {s : LS} {w : World} {tb : Nat} {wr : World} (h : LF L kb s w tb s.e.length s.r.length wr) : LH L kb s w tb 0 0 ES0 wr :=
  ⟨h.blk, ⟨h.b.xi, fun a e he _ => h.b.fu a e he (List.getElem?_eq_some_iff.1 he).1⟩, ⟨h.v.xi, fun a e he _ => h.v.fu a e he (List.getElem?_eq_some_iff.1 he).1⟩, h.tk, Nat.le_refl _, Nat.le_refl _, fun k hk => .inl (by rw [KB0 hk]; exact h.tb), h.chg, h.lt⟩
theorem LF.stepA {L kb : Nat} {s : LS} {w : World} {tb i j : Nat} {wr w2 : World} (h : LF L kb s w tb i j wr) (hL : LK L kb s w) {e : LE} (he : s.e[i]? = some e) (hr : w2.ownsRow L 56 6 e.l e.n (full FA e.n i)) (hc : Chg (fun k => e.l.ownBlock = some k) wr w2) : LF L kb s w tb (i + 1) j w2 := by
  have hre := h.b.re i e he (Nat.le_refl _)
  have hem : LO s = LO s := rfl
  have hin : ∀ k, e.l.ownBlock = some k → LO s k := fun k e2 => .inl ⟨e, List.mem_of_getElem? he, e2⟩
  refine ⟨hc.blk h.blk (fun e2 => kb_ne hre h.blk (by decide) kb e2 rfl), h.b.step FA.ok hL.de he hr hc, h.v.frame hc (fun ht hq g e2 e3 => ty_ne hq hre (by rcases ht with rfl | rfl <;> decide) g e2 e3), h.tk.frame hc (fun k hk e2 => by have h1 := h.lt k (hin k e2); have h2 := h.tb; rw [KB0 hk] at h1; omega), h.chg.trans hc (fun k _ e2 => hin k e2), h.lt, h.tb⟩
theorem LH.stepA {L kb : Nat} {s : LS} {w : World} {tb i j : Nat} {t t' : ES} {wr w2 : World} (h : LH L kb s w tb i j t wr) (hL : LK L kb s w) {e : LE} (he : s.e[i]? = some e) (hK2 : KE L tb t' w2) (hc : Chg (fun k => KB tb t k ∨ e.l.ownBlock = some k) wr w2) (hbl : ∀ k, KB tb t' k → KB tb t k ∨ e.l.ownBlock = some k ∨ wr.heap.size ≤ k) (hn1 : t'.e.length ≤ t.e.length + 18) (hn2 : t'.r.length ≤ t.r.length) : LH L kb s w tb (i + 1) j t' w2 := by
  have hKB : ∀ k, (KB tb t k ∨ e.l.ownBlock = some k) → w.heap.size ≤ k ∨ (∃ (a : Nat) (e : LE), s.e[a]? = some e ∧ a < i + 1 ∧ e.l.ownBlock = some k) ∨ ∃ (a : Nat) (e : LE), s.r[a]? = some e ∧ a < j ∧ e.l.ownBlock = some k := fun k q => by
    rcases q with q | q
    · rcases h.kb' k q with q | ⟨a, f, h1, h2, h3⟩ | ⟨a, f, h1, h2, h3⟩
      · exact .inl q
      · exact .inr (.inl ⟨a, f, h1, by omega, h3⟩)
      · exact .inr (.inr ⟨a, f, h1, by omega, h3⟩)
    · exact .inr (.inl ⟨i, e, he, by omega, q⟩)
  have hLO : ∀ k, (KB tb t k ∨ e.l.ownBlock = some k) → w.heap.size ≤ k ∨ LO s k := fun k hk => by
    rcases hKB k hk with q | ⟨a, f, h1, _, h3⟩ | ⟨a, f, h1, _, h3⟩
    · exact .inl q
    · exact .inr (.inl ⟨f, List.mem_of_getElem? h1, h3⟩)
    · exact .inr (.inr ⟨f, List.mem_of_getElem? h1, h3⟩)
  have hvv : ∀ {v : Value}, (∀ k, v.ownBlock = some k → k < w.heap.size) → (∀ k, LO s k → v.ownBlock ≠ some k) → ∀ g, v.ownBlock = some g → ¬ (KB tb t g ∨ e.l.ownBlock = some g) := fun h1 h2 g e2 hb => by
    rcases hLO g hb with q | q
    · have := h1 g e2; omega
    · exact h2 g q e2
  refine ⟨hc.blk h.blk (fun hb => by rcases hLO kb hb with q | q; have := hL.kl; omega; exact (hL.lo kb q).1 rfl), h.b.frame (by omega) hc (hvv hL.vI (fun k q => (hL.lo k q).2.1)) (fun a f hf ha g e2 hb => ?_), h.v.frame (by omega) hc (hvv hL.vR (fun k q => (hL.lo k q).2.2)) (fun a f hf ha g e2 hb => ?_), hK2, by have := h.cn1; omega, by have := h.cn2; omega, fun k hk => ?_, h.chg.trans hc (fun k hk hb => by rcases hLO k hb with q | q; omega; exact q), h.lt⟩
  · have hlt := h.lt g (.inl ⟨f, List.mem_of_getElem? hf, e2⟩)
    rcases hKB g hb with q | ⟨a', f', h1, h2, h3⟩ | ⟨a', f', h1, h2, h3⟩
    · omega
    · exact dj_at hL.de h1 hf (by omega) g h3 e2
    · exact hL.xr f (List.mem_of_getElem? hf) f' (List.mem_of_getElem? h1) g e2 h3
  · have hlt := h.lt g (.inr ⟨f, List.mem_of_getElem? hf, e2⟩)
    rcases hKB g hb with q | ⟨a', f', h1, h2, h3⟩ | ⟨a', f', h1, h2, h3⟩
    · omega
    · exact hL.xr f' (List.mem_of_getElem? h1) f (List.mem_of_getElem? hf) g h3 e2
    · exact dj_at hL.dr h1 hf (by omega) g h3 e2
  · have hsz := h.chg.size
    rcases hbl k hk with q | q | q
    · exact hKB k (.inl q)
    · exact hKB k (.inr q)
    · exact .inl (by omega)
theorem LH.noA {L kb : Nat} {s : LS} {w : World} {tb i j : Nat} {t : ES} {wr : World} (h : LH L kb s w tb i j t wr) (hL : LK L kb s w) {e : LE} (he : s.e[i]? = some e) (g : Nat) (h1 : e.l.ownBlock = some g) : ¬ KB tb t g := fun h2 => by
  rcases h.kb' g h2 with q | ⟨a, f, h3, h4, h5⟩ | ⟨a, f, h3, h4, h5⟩
  · have := h.lt g (.inl ⟨_, List.mem_of_getElem? he, h1⟩); omega
  · exact dj_at hL.de h3 he (by omega) g h5 h1
  · exact hL.xr _ (List.mem_of_getElem? he) f (List.mem_of_getElem? h3) g h1 h5
theorem LF.stepE {L kb : Nat} {s : LS} {w : World} {tb i j : Nat} {wr w2 : World} (h : LF L kb s w tb i j wr) (hL : LK L kb s w) {e : LE} (he : s.r[j]? = some e) (hr : w2.ownsRow L 49 2 e.l e.n (full FE e.n j)) (hc : Chg (fun k => e.l.ownBlock = some k) wr w2) : LF L kb s w tb i (j + 1) w2 := by
  have hre := h.v.re j e he (Nat.le_refl _)
  have hem : LO s = LO s := rfl
  have hin : ∀ k, e.l.ownBlock = some k → LO s k := fun k e2 => .inr ⟨e, List.mem_of_getElem? he, e2⟩
  refine ⟨hc.blk h.blk (fun e2 => kb_ne hre h.blk (by decide) kb e2 rfl), h.b.frame hc (fun ht hq g e2 e3 => ty_ne hq hre (by rcases ht with rfl | rfl <;> decide) g e2 e3), h.v.step FE.ok hL.dr he hr hc, h.tk.frame hc (fun k hk e2 => by have h1 := h.lt k (hin k e2); have h2 := h.tb; rw [KB0 hk] at h1; omega), h.chg.trans hc (fun k _ e2 => hin k e2), h.lt, h.tb⟩
theorem LH.stepE {L kb : Nat} {s : LS} {w : World} {tb i j : Nat} {t t' : ES} {wr w2 : World} (h : LH L kb s w tb i j t wr) (hL : LK L kb s w) {e : LE} (he : s.r[j]? = some e) (hK2 : KE L tb t' w2) (hc : Chg (fun k => KB tb t k ∨ e.l.ownBlock = some k) wr w2) (hbl : ∀ k, KB tb t' k → KB tb t k ∨ e.l.ownBlock = some k ∨ wr.heap.size ≤ k) (hn1 : t'.r.length ≤ t.r.length + 18) (hn2 : t'.e.length ≤ t.e.length) : LH L kb s w tb i (j + 1) t' w2 := by
  have hKB : ∀ k, (KB tb t k ∨ e.l.ownBlock = some k) → w.heap.size ≤ k ∨ (∃ (a : Nat) (e : LE), s.e[a]? = some e ∧ a < i ∧ e.l.ownBlock = some k) ∨ ∃ (a : Nat) (e : LE), s.r[a]? = some e ∧ a < j + 1 ∧ e.l.ownBlock = some k := fun k q => by
    rcases q with q | q
    · rcases h.kb' k q with q | ⟨a, f, h1, h2, h3⟩ | ⟨a, f, h1, h2, h3⟩
      · exact .inl q
      · exact .inr (.inl ⟨a, f, h1, by omega, h3⟩)
      · exact .inr (.inr ⟨a, f, h1, by omega, h3⟩)
    · exact .inr (.inr ⟨j, e, he, by omega, q⟩)
  have hLO : ∀ k, (KB tb t k ∨ e.l.ownBlock = some k) → w.heap.size ≤ k ∨ LO s k := fun k hk => by
    rcases hKB k hk with q | ⟨a, f, h1, _, h3⟩ | ⟨a, f, h1, _, h3⟩
    · exact .inl q
    · exact .inr (.inl ⟨f, List.mem_of_getElem? h1, h3⟩)
    · exact .inr (.inr ⟨f, List.mem_of_getElem? h1, h3⟩)
  have hvv : ∀ {v : Value}, (∀ k, v.ownBlock = some k → k < w.heap.size) → (∀ k, LO s k → v.ownBlock ≠ some k) → ∀ g, v.ownBlock = some g → ¬ (KB tb t g ∨ e.l.ownBlock = some g) := fun h1 h2 g e2 hb => by
    rcases hLO g hb with q | q
    · have := h1 g e2; omega
    · exact h2 g q e2
  refine ⟨hc.blk h.blk (fun hb => by rcases hLO kb hb with q | q; have := hL.kl; omega; exact (hL.lo kb q).1 rfl), h.b.frame (by omega) hc (hvv hL.vI (fun k q => (hL.lo k q).2.1)) (fun a f hf ha g e2 hb => ?_), h.v.frame (by omega) hc (hvv hL.vR (fun k q => (hL.lo k q).2.2)) (fun a f hf ha g e2 hb => ?_), hK2, by have := h.cn1; omega, by have := h.cn2; omega, fun k hk => ?_, h.chg.trans hc (fun k hk hb => by rcases hLO k hb with q | q; omega; exact q), h.lt⟩
  · have hlt := h.lt g (.inl ⟨f, List.mem_of_getElem? hf, e2⟩)
    rcases hKB g hb with q | ⟨a', f', h1, h2, h3⟩ | ⟨a', f', h1, h2, h3⟩
    · omega
    · exact dj_at hL.de h1 hf (by omega) g h3 e2
    · exact hL.xr f (List.mem_of_getElem? hf) f' (List.mem_of_getElem? h1) g e2 h3
  · have hlt := h.lt g (.inr ⟨f, List.mem_of_getElem? hf, e2⟩)
    rcases hKB g hb with q | ⟨a', f', h1, h2, h3⟩ | ⟨a', f', h1, h2, h3⟩
    · omega
    · exact hL.xr f' (List.mem_of_getElem? h1) f (List.mem_of_getElem? hf) g h3 e2
    · exact dj_at hL.dr h1 hf (by omega) g h3 e2
  · have hsz := h.chg.size
    rcases hbl k hk with q | q | q
    · exact hKB k (.inl q)
    · exact hKB k (.inr q)
    · exact .inl (by omega)
theorem LH.noE {L kb : Nat} {s : LS} {w : World} {tb i j : Nat} {t : ES} {wr : World} (h : LH L kb s w tb i j t wr) (hL : LK L kb s w) {e : LE} (he : s.r[j]? = some e) (g : Nat) (h1 : e.l.ownBlock = some g) : ¬ KB tb t g := fun h2 => by
  rcases h.kb' g h2 with q | ⟨a, f, h3, h4, h5⟩ | ⟨a, f, h3, h4, h5⟩
  · have := h.lt g (.inr ⟨_, List.mem_of_getElem? he, h1⟩); omega
  · exact hL.xr f (List.mem_of_getElem? h3) _ (List.mem_of_getElem? he) g h5 h1
  · exact dj_at hL.dr h3 he (by omega) g h5 h1
end Go.Proofs.Ytjojhhkbebddmaa.Lt
namespace Go.Proofs.Ytjojhhkbebddmaa.Lt
open Go.RowKit Go.PlainAid
set_option linter.unusedVariables false
set_option linter.unusedSimpArgs false
set_option maxRecDepth 100000 in
set_option maxHeartbeats 6400000 in
/-- The lists are as they were; then they are written full, grown, and whole. -/
theorem lately_any {L kb : Nat} {s : LS} (w : World) (hK : KL L kb s w) (hel : s.e.length ≤ 50000000000) (hrl : s.r.length ≤ 50000000000) :
    Calls Try.prog 56 #[.pointer (some ⟨kb, 0, none⟩)] w fun r w' => r = .returned (.bool true) ∧ Chg (KLB kb s) w w' := by
  obtain ⟨vI, vW, vR, vX, es, rs⟩ := s
  obtain ⟨io, ci, hii, _⟩ := own_slice hK.b.xi
  obtain ⟨wo, cw, hww, _⟩ := own_slice hK.b.xw
  obtain ⟨ro, cr, hrr, _⟩ := own_slice hK.v.xi
  obtain ⟨xo, cx, hxx, _⟩ := own_slice hK.v.xw
  simp only at hii hww hrr hxx hel hrl
  obtain ⟨ne, hne⟩ : ∃ ne, ne = es.length := ⟨_, rfl⟩
  obtain ⟨nr, hnr⟩ : ∃ nr, nr = rs.length := ⟨_, rfl⟩
  rw [← hne] at hii hww hel
  rw [← hnr] at hrr hxx hrl
  subst hii hww hrr hxx
  have c1 : w.cell? ⟨kb, 1, none⟩ = some (.slice io ne ci) := hK.blk.cell 1
  have c2 : w.cell? ⟨kb, 2, none⟩ = some (.slice wo ne cw) := hK.blk.cell 2
  have c4 : w.cell? ⟨kb, 4, none⟩ = some (.slice ro nr cr) := hK.blk.cell 4
  have c5 : w.cell? ⟨kb, 5, none⟩ = some (.slice xo nr cx) := hK.blk.cell 5
  have HK : Hid _ := hK
  have HL : Hid _ := hK.lk'
  have HNE : Hid (ne = es.length) := hne
  have HNR : Hid (nr = rs.length) := hnr
  obtain ⟨s, hs⟩ : ∃ s : LS, s = ⟨.slice io ne ci, .slice wo ne cw, .slice ro nr cr, .slice xo nr cx, es, rs⟩ := ⟨_, rfl⟩
  have HSS : Hid (s = ⟨.slice io ne ci, .slice wo ne cw, .slice ro nr cr, .slice xo nr cx, es, rs⟩) := hs
  have hse : s.e = es := by rw [hs]
  have HSE : Hid (s.e = es) := hse
  have hsr : s.r = rs := by rw [hs]
  have HSR : Hid (s.r = rs) := hsr
  rw [← hs] at HK HL ⊢
  clear hK hne hnr hs hse hsr
  go_enter Try.func56, Try.ntmps56
  go_wp2_with fail
  go_loopw [3] (fun s wr => ∃ i q : Nat, i ≤ ne ∧ s = .int .i64 (i : Int) ∧ wr = w.drewN q) (fun s _ => ne - (intOf s).toNat)
  case atStart => exact ⟨0, 0, Nat.zero_le _, rfl, rfl⟩
  case round =>
    obtain ⟨i, q, hie, rfl, rfl⟩ := hrel
    have c1' : (w.drewN q).cell? ⟨kb, 1, none⟩ = some (.slice io ne ci) := c1
    by_cases hi : i < ne
    · obtain ⟨e, he⟩ : ∃ e, es[i]? = some e := ⟨es[i]'(by rw [← HNE.out]; exact hi), List.getElem?_eq_getElem _⟩
      have hem : e ∈ s.e := by rw [HSE.out]; exact List.mem_of_getElem? he
      obtain ⟨el, ew, ln, zs⟩ := e
      have hl := HK.out.b.el _ hem
      have hw := HK.out.b.ew _ hem
      have hzl := HK.out.b.ln _ hem
      have hgd := HK.out.b.gd _ hem
      simp only at hl hw hzl hgd
      obtain ⟨bs, hbl, rfl⟩ := hgd
      obtain ⟨lo, lc, hll, _⟩ := own_slice hl
      obtain ⟨vo, vc, hvv, _⟩ := own_slice hw
      subst hll hvv
      have xi := HK.out.b.xi
      have xw := HK.out.b.xw
      rw [HSS.out] at xi xw
      simp only at xi xw
      rw [← HNE.out] at xi xw
      obtain ⟨gi, rfl⟩ := row_ptr xi (by omega)
      obtain ⟨gw, rfl⟩ := row_ptr xw (by omega)
      have d2 : w.cell? ⟨gi, i, none⟩ = some (.slice lo ln lc) := row_cell xi (by rw [List.getElem?_map, he]; rfl)
      have d4 : w.cell? ⟨gw, i, none⟩ = some (.slice vo ln vc) := row_cell xw (by rw [List.getElem?_map, he]; rfl)
      have f1 : (w.drewN q).cell? ⟨kb, 1, none⟩ = some (.slice (some ⟨gi, 0, none⟩) ne ci) := c1
      have f2 : (w.drewN q).cell? ⟨gi, i, none⟩ = some (.slice lo ln lc) := d2
      have f3 : (w.drewN q).cell? ⟨kb, 2, none⟩ = some (.slice (some ⟨gw, 0, none⟩) ne cw) := c2
      have f4 : (w.drewN q).cell? ⟨gw, i, none⟩ = some (.slice vo ln vc) := d4
      subst hbl
      have hk1 := fun n => sameActs_any ((w.drewN q).drewN n) (show World.ownsRow ((w.drewN q).drewN n) _ _ _ _ _ _ from hl) (show World.ownsRow ((w.drewN q).drewN n) _ _ _ _ _ _ from hw)
      clear hl hw xi xw he hem
      obtain ⟨wz, hwz⟩ : ∃ wz, wz = w.drewN q := ⟨_, rfl⟩
      rw [← hwz] at f1 f2 f3 f4 hk1 c1' ⊢
      have HWZ : Hid _ := hwz
      have HQ : Hid _ := hk1
      clear hk1 hwz
      go_wp2_with fail
      go_quiet (first | (go_at_call 80; exact Calls.quiet_of (HQ.out _)) | fail)
      go_wp2_with fail
      go_roundw
      case rel => exact ⟨i + 1, _, by omega, by go_num, by rw [HWZ.out, World.drewN_drewN]⟩
      case measure => simp [intOf]; omega
    · clear c1'
      go_wp2_with fail
      go_loopw [4] (fun s wr => ∃ i q : Nat, i ≤ nr ∧ s = .int .i64 (i : Int) ∧ wr = w.drewN q) (fun s _ => nr - (intOf s).toNat)
      case atStart => exact ⟨0, q, Nat.zero_le _, rfl, rfl⟩
      case round =>
        obtain ⟨i, q, hie, rfl, rfl⟩ := hrel
        have c1' : (w.drewN q).cell? ⟨kb, 4, none⟩ = some (.slice ro nr cr) := c4
        by_cases hi : i < nr
        · obtain ⟨e, he⟩ : ∃ e, rs[i]? = some e := ⟨rs[i]'(by rw [← HNR.out]; exact hi), List.getElem?_eq_getElem _⟩
          have hem : e ∈ s.r := by rw [HSR.out]; exact List.mem_of_getElem? he
          obtain ⟨el, ew, ln, zs⟩ := e
          have hl := HK.out.v.el _ hem
          have hw := HK.out.v.ew _ hem
          have hzl := HK.out.v.ln _ hem
          have hgd := HK.out.v.gd _ hem
          simp only at hl hw hzl hgd
          obtain ⟨bs, hbl, rfl⟩ := hgd
          obtain ⟨lo, lc, hll, _⟩ := own_slice hl
          obtain ⟨vo, vc, hvv, _⟩ := own_slice hw
          subst hll hvv
          have xi := HK.out.v.xi
          have xw := HK.out.v.xw
          rw [HSS.out] at xi xw
          simp only at xi xw
          rw [← HNR.out] at xi xw
          obtain ⟨gi, rfl⟩ := row_ptr xi (by omega)
          obtain ⟨gw, rfl⟩ := row_ptr xw (by omega)
          have d2 : w.cell? ⟨gi, i, none⟩ = some (.slice lo ln lc) := row_cell xi (by rw [List.getElem?_map, he]; rfl)
          have d4 : w.cell? ⟨gw, i, none⟩ = some (.slice vo ln vc) := row_cell xw (by rw [List.getElem?_map, he]; rfl)
          have f1 : (w.drewN q).cell? ⟨kb, 4, none⟩ = some (.slice (some ⟨gi, 0, none⟩) nr cr) := c4
          have f2 : (w.drewN q).cell? ⟨gi, i, none⟩ = some (.slice lo ln lc) := d2
          have f3 : (w.drewN q).cell? ⟨kb, 5, none⟩ = some (.slice (some ⟨gw, 0, none⟩) nr cx) := c5
          have f4 : (w.drewN q).cell? ⟨gw, i, none⟩ = some (.slice vo ln vc) := d4
          subst hbl
          have hk1 := fun n => sameEps_any ((w.drewN q).drewN n) (show World.ownsRow ((w.drewN q).drewN n) _ _ _ _ _ _ from hl) (show World.ownsRow ((w.drewN q).drewN n) _ _ _ _ _ _ from hw)
          clear hl hw xi xw he hem
          obtain ⟨wz, hwz⟩ : ∃ wz, wz = w.drewN q := ⟨_, rfl⟩
          rw [← hwz] at f1 f2 f3 f4 hk1 c1' ⊢
          have HWZ : Hid _ := hwz
          have HQ : Hid _ := hk1
          clear hk1 hwz
          go_wp2_with fail
          go_quiet (first | (go_at_call 78; exact Calls.quiet_of (HQ.out _)) | fail)
          go_wp2_with fail
          go_roundw
          case rel => exact ⟨i + 1, _, by omega, by go_num, by rw [HWZ.out, World.drewN_drewN]⟩
          case measure => simp [intOf]; omega
        · clear c1'
          have hbw : Below w.heap.size w (w.drewN q) := below_drewN (Below.refl _ _) q
          have c1' : (w.drewN q).cell? ⟨kb, 4, none⟩ = some (.slice ro nr cr) := c4
          generalize w.drewN q = wr at *
          obtain ⟨tb, htb⟩ : ∃ tb, tb = wr.heap.size := ⟨_, rfl⟩
          obtain ⟨X, hX⟩ : ∃ X, X = wr.alloc (.cells #[.bool false, .slice none 0 0, .slice none 0 0, .slice none 0 0, .slice none 0 0, .slice none 0 0, .slice none 0 0] 76) := ⟨_, rfl⟩
          have hLw : L ≤ wr.heap.size := Nat.le_trans (Nat.le_trans HK.out.lk (Nat.le_of_lt HL.out.kl)) hbw.size
          have hbX : Below w.heap.size w X := by rw [hX]; exact hbw.alloc hbw.size _
          have hKX := HK.out.frame (Chg.ofBelow (fun _ => False) hbX) (fun _ _ e => e)
          have hBT : Blk X tb #[.bool false, .slice none 0 0, .slice none 0 0, .slice none 0 0, .slice none 0 0, .slice none 0 0, .slice none 0 0] 76 := by rw [hX, htb]; exact heap_alloc_new wr _
          have HLT : ∀ k, LO s k → k < w.heap.size := fun k h => by
            rcases h with ⟨e, he, hk⟩ | ⟨e, he, hk⟩
            · exact (ownsRow_lt (HK.out.b.el e he) hk).2
            · exact (ownsRow_lt (HK.out.v.el e he) hk).2
          have HF0 : Hid (LF L kb s w tb 0 0 X) := ⟨hKX.blk, ⟨hKX.b.xi, (fun j e he hj => by omega), (fun j e he _ => hKX.b.el e (List.mem_of_getElem? he))⟩, ⟨hKX.v.xi, (fun j e he hj => by omega), (fun j e he _ => hKX.v.el e (List.mem_of_getElem? he))⟩, KE.new hBT (by omega), Chg.ofBelow _ hbX, HLT, by have := hbw.size; omega⟩
          have HEX : Hid (X = wr.alloc (.cells #[.bool false, .slice none 0 0, .slice none 0 0, .slice none 0 0, .slice none 0 0, .slice none 0 0, .slice none 0 0] 76)) := hX
          have HET : Hid (tb = wr.heap.size) := htb
          clear hLw hbX hKX hBT hX htb HLT
          go_upto_region 12 with fail
          rw [← HEX.out, ← HET.out]
          clear HEX HET c1' hbw
          go_wp2_with fail
          go_loopw [6] (fun x wr => ∃ j : Nat, j ≤ ne ∧ x = .int .i64 (j : Int) ∧ LF L kb s w tb j 0 wr) (fun x _ => ne - (intOf x).toNat)
          case atStart => exact ⟨0, Nat.zero_le _, rfl, HF0.out⟩
          case round =>
            clear HF0
            obtain ⟨j, hje, rfl, hF⟩ := hrel
            have HF : Hid _ := hF
            have e1 : wr.cell? ⟨kb, 1, none⟩ = some (.slice io ne ci) := by have := hF.blk.cell 1; rw [HSS.out] at this; exact this
            clear hF
            by_cases hj : j < ne
            · obtain ⟨e, he⟩ : ∃ e, s.e[j]? = some e := ⟨s.e[j]'(by rw [HSE.out, ← HNE.out]; exact hj), List.getElem?_eq_getElem _⟩
              obtain ⟨el, ew, ln, zs⟩ := e
              have hzl := HK.out.b.ln _ (List.mem_of_getElem? he)
              have hre := HF.out.b.re j _ he (Nat.le_refl _)
              simp only at hzl hre
              have xi := HF.out.b.xi
              rw [HSS.out] at xi
              simp only at xi
              rw [← HNE.out] at xi
              obtain ⟨gi, rfl⟩ := row_ptr xi (by omega)
              obtain ⟨lo, lc, hll, _⟩ := own_slice hre
              subst hll
              have d2 : wr.cell? ⟨gi, j, none⟩ = some (.slice lo ln lc) := row_cell xi (by rw [List.getElem?_map, ← HSE.out, he]; rfl)
              have HFI : Hid _ := fillA_any (m := (j : Int)) wr hre (by omega) (by omega) (by omega)
              have HST : Hid _ := fun w2 => HF.out.stepA (w2 := w2) HL.out he
              simp only at HST
              clear he hre xi
              go_wp2_with fail
              refine Calls.mono HFI.out ?_
              rintro e9 w2 ⟨rfl, hr2, hc2⟩
              have HF2 : Hid _ := HST.out w2 hr2 hc2
              clear hr2 hc2 HFI HF d2 HST
              go_wp2_with fail
              go_roundw
              case rel => exact ⟨j + 1, by omega, by go_num, HF2.out⟩
              case measure => simp [intOf]; omega
            · have hjn : j = s.e.length := by have := HNE.out; rw [HSE.out]; omega
              have HF0 : Hid (LF L kb s w tb s.e.length 0 wr) := by
                have := HF.out
                rw [hjn] at this
                exact this
              clear HF hjn
              go_wp2_with fail
              go_loopw [7] (fun x wr => ∃ j : Nat, j ≤ nr ∧ x = .int .i64 (j : Int) ∧ LF L kb s w tb s.e.length j wr) (fun x _ => nr - (intOf x).toNat)
              case atStart => exact ⟨0, Nat.zero_le _, rfl, HF0.out⟩
              case round =>
                clear HF0
                obtain ⟨j, hje, rfl, hF⟩ := hrel
                have HF : Hid _ := hF
                have e1 : wr.cell? ⟨kb, 4, none⟩ = some (.slice ro nr cr) := by have := hF.blk.cell 4; rw [HSS.out] at this; exact this
                clear hF
                by_cases hj : j < nr
                · obtain ⟨e, he⟩ : ∃ e, s.r[j]? = some e := ⟨s.r[j]'(by rw [HSR.out, ← HNR.out]; exact hj), List.getElem?_eq_getElem _⟩
                  obtain ⟨el, ew, ln, zs⟩ := e
                  have hzl := HK.out.v.ln _ (List.mem_of_getElem? he)
                  have hre := HF.out.v.re j _ he (Nat.le_refl _)
                  simp only at hzl hre
                  have xi := HF.out.v.xi
                  rw [HSS.out] at xi
                  simp only at xi
                  rw [← HNR.out] at xi
                  obtain ⟨gi, rfl⟩ := row_ptr xi (by omega)
                  obtain ⟨lo, lc, hll, _⟩ := own_slice hre
                  subst hll
                  have d2 : wr.cell? ⟨gi, j, none⟩ = some (.slice lo ln lc) := row_cell xi (by rw [List.getElem?_map, ← HSR.out, he]; rfl)
                  have HFI : Hid _ := fillE_any (m := (j : Int)) wr hre (by omega) (by omega) (by omega)
                  have HST : Hid _ := fun w2 => HF.out.stepE (w2 := w2) HL.out he
                  simp only at HST
                  clear he hre xi
                  go_wp2_with fail
                  refine Calls.mono HFI.out ?_
                  rintro e9 w2 ⟨rfl, hr2, hc2⟩
                  have HF2 : Hid _ := HST.out w2 hr2 hc2
                  clear hr2 hc2 HFI HF d2 HST
                  go_wp2_with fail
                  go_roundw
                  case rel => exact ⟨j + 1, by omega, by go_num, HF2.out⟩
                  case measure => simp [intOf]; omega
                · have hjn : j = s.r.length := by have := HNR.out; rw [HSR.out]; omega
                  have HH0 : Hid (LH L kb s w tb 0 0 ES0 wr) := by
                    have := HF.out
                    rw [hjn] at this
                    exact this.held
                  clear HF hjn
                  go_wp2_with fail
                  go_loopw [8] (fun x wr => ∃ j : Nat, j ≤ ne ∧ x = .int .i64 (j : Int) ∧ ∃ t, LH L kb s w tb j 0 t wr) (fun x _ => ne - (intOf x).toNat)
                  case atStart => exact ⟨0, Nat.zero_le _, rfl, _, HH0.out⟩
                  case round =>
                    clear HH0
                    obtain ⟨j, hje, rfl, t, hH⟩ := hrel
                    have HH : Hid _ := hH
                    have e1 : wr.cell? ⟨kb, 1, none⟩ = some (.slice io ne ci) := by have := hH.blk.cell 1; rw [HSS.out] at this; exact this
                    clear hH
                    by_cases hj : j < ne
                    · obtain ⟨e, he⟩ : ∃ e, s.e[j]? = some e := ⟨s.e[j]'(by rw [HSE.out, ← HNE.out]; exact hj), List.getElem?_eq_getElem _⟩
                      obtain ⟨el, ew, ln, zs⟩ := e
                      have hzl := HK.out.b.ln _ (List.mem_of_getElem? he)
                      have hre := HH.out.b.fu j _ he (Nat.le_refl _)
                      simp only at hzl hre
                      have xi := HH.out.b.xi
                      rw [HSS.out] at xi
                      simp only at xi
                      rw [← HNE.out] at xi
                      obtain ⟨gi, rfl⟩ := row_ptr xi (by omega)
                      obtain ⟨lo, lc, hll, _⟩ := own_slice hre
                      subst hll
                      have d2 : wr.cell? ⟨gi, j, none⟩ = some (.slice lo ln lc) := row_cell xi (by rw [List.getElem?_map, ← HSE.out, he]; rfl)
                      have hno := HH.out.noA HL.out he
                      simp only at hno
                      have HHO : Hid _ := holdA_any (m := (j : Int)) (C := #[.bool false, t.vI, .slice none 0 0, t.vM, t.vR, .slice none 0 0, t.vN]) wr HH.out.tk.blk rfl HH.out.tk.b hre (fun x hx g h1 h2 => hno g h1 (.inr (.inl (.inr (.inr ⟨x, hx, h2⟩))))) hzl (by omega) (by omega) (by have := HH.out.cn1; omega) HH.out.tk.lk
                      have HST : Hid (∀ (v1 v2 far : Value) (ls2 : List Lst) (w2 : World), HS FA L tb #[.bool false, t.vI, .slice none 0 0, t.vM, t.vR, .slice none 0 0, t.vN] t.vI t.vM (.slice lo ln lc) t.e wr v1 v2 far ls2 ls2 (ln + 40) j w2 → ls2.length ≤ t.e.length + 18 → ∃ t', LH L kb s w tb (j + 1) 0 t' w2) := fun v1 v2 far ls2 w2 hS hle => by
                        obtain ⟨a1, a2, a3⟩ := HH.out.tk.heldA hre (by omega) hS
                        exact ⟨_, HH.out.stepA HL.out he a1 a2 a3 hle (Nat.le_refl _)⟩
                      clear he hre xi hno
                      go_wp2_with fail
                      refine Calls.mono HHO.out ?_
                      rintro e9 w2 ⟨rfl, u1, u2, far, ls2, hS2, hle2, _⟩
                      have HH2 : Hid _ := HST.out u1 u2 far ls2 w2 hS2 hle2
                      clear hS2 hle2 HHO HH d2 HST
                      go_wp2_with fail
                      go_roundw
                      case rel => exact ⟨j + 1, by omega, by go_num, HH2.out⟩
                      case measure => simp [intOf]; omega
                    · have hjn : j = s.e.length := by have := HNE.out; rw [HSE.out]; omega
                      have HH0 : Hid (LH L kb s w tb s.e.length 0 t wr) := by
                        have := HH.out
                        rw [hjn] at this
                        exact this
                      clear HH hjn
                      go_wp2_with fail
                      go_loopw [9] (fun x wr => ∃ j : Nat, j ≤ nr ∧ x = .int .i64 (j : Int) ∧ ∃ t, LH L kb s w tb s.e.length j t wr) (fun x _ => nr - (intOf x).toNat)
                      case atStart => exact ⟨0, Nat.zero_le _, rfl, _, HH0.out⟩
                      case round =>
                        clear HH0
                        obtain ⟨j, hje, rfl, t, hH⟩ := hrel
                        have HH : Hid _ := hH
                        have e1 : wr.cell? ⟨kb, 4, none⟩ = some (.slice ro nr cr) := by have := hH.blk.cell 4; rw [HSS.out] at this; exact this
                        clear hH
                        by_cases hj : j < nr
                        · obtain ⟨e, he⟩ : ∃ e, s.r[j]? = some e := ⟨s.r[j]'(by rw [HSR.out, ← HNR.out]; exact hj), List.getElem?_eq_getElem _⟩
                          obtain ⟨el, ew, ln, zs⟩ := e
                          have hzl := HK.out.v.ln _ (List.mem_of_getElem? he)
                          have hre := HH.out.v.fu j _ he (Nat.le_refl _)
                          simp only at hzl hre
                          have xi := HH.out.v.xi
                          rw [HSS.out] at xi
                          simp only at xi
                          rw [← HNR.out] at xi
                          obtain ⟨gi, rfl⟩ := row_ptr xi (by omega)
                          obtain ⟨lo, lc, hll, _⟩ := own_slice hre
                          subst hll
                          have d2 : wr.cell? ⟨gi, j, none⟩ = some (.slice lo ln lc) := row_cell xi (by rw [List.getElem?_map, ← HSR.out, he]; rfl)
                          have hno := HH.out.noE HL.out he
                          simp only at hno
                          have HHO : Hid _ := holdE_any (m := (j : Int)) (C := #[.bool false, t.vI, .slice none 0 0, t.vM, t.vR, .slice none 0 0, t.vN]) wr HH.out.tk.blk rfl HH.out.tk.v hre (fun x hx g h1 h2 => hno g h1 (.inr (.inr (.inr (.inr ⟨x, hx, h2⟩))))) hzl (by omega) (by omega) (by have := HH.out.cn2; omega) HH.out.tk.lk
                          have HST : Hid (∀ (v1 v2 far : Value) (ls2 : List Lst) (w2 : World), HS FE L tb #[.bool false, t.vI, .slice none 0 0, t.vM, t.vR, .slice none 0 0, t.vN] t.vR t.vN (.slice lo ln lc) t.r wr v1 v2 far ls2 ls2 (ln + 40) j w2 → ls2.length ≤ t.r.length + 18 → ∃ t', LH L kb s w tb s.e.length (j + 1) t' w2) := fun v1 v2 far ls2 w2 hS hle => by
                            obtain ⟨a1, a2, a3⟩ := HH.out.tk.heldE hre (by omega) hS
                            exact ⟨_, HH.out.stepE HL.out he a1 a2 a3 hle (Nat.le_refl _)⟩
                          clear he hre xi hno
                          go_wp2_with fail
                          refine Calls.mono HHO.out ?_
                          rintro e9 w2 ⟨rfl, u1, u2, far, ls2, hS2, hle2, _⟩
                          have HH2 : Hid _ := HST.out u1 u2 far ls2 w2 hS2 hle2
                          clear hS2 hle2 HHO HH d2 HST
                          go_wp2_with fail
                          go_roundw
                          case rel => exact ⟨j + 1, by omega, by go_num, HH2.out⟩
                          case measure => simp [intOf]; omega
                        · have HWH : Hid _ := whole_early wr HH.out.tk
                          go_wp2_with fail
                          refine Calls.mono HWH.out ?_
                          rintro e9 w2 ⟨rfl, q9, rfl⟩
                          have a1 : Chg (KLB kb s) w wr := HH.out.chg.mono (fun k _ h => by
                            rcases h with ⟨e, he, hk⟩ | ⟨e, he, hk⟩
                            · exact .inr (.inl (.inr (.inr ⟨e, he, .inl hk⟩)))
                            · exact .inr (.inr (.inr (.inr ⟨e, he, .inl hk⟩))))
                          have HCF : Hid (Chg (KLB kb s) w (wr.drewN q9)) := a1.drewN q9
                          clear a1 HWH HH
                          go_wp2_with fail
                          go_ret
                          exact ⟨rfl, HCF.out⟩
set_option maxRecDepth 100000 in
set_option maxHeartbeats 1600000 in
theorem whole_late {L kb : Nat} {s : LS} (w : World) (hK : KL L kb s w) (hel : s.e.length ≤ 50000000000) (hrl : s.r.length ≤ 50000000000) :
    Calls Try.prog 28 #[.pointer (some ⟨kb, 0, none⟩)] w fun r w' => r = .returned (.bool true) ∧ Chg (KLB kb s) w w' := by
  have c0 : w.cell? ⟨kb, 0, none⟩ = some (.bool true) := hK.blk.cell 0
  have HL : Hid _ := lately_any w hK hel hrl
  clear hK
  go_enter Try.func28, Try.ntmps28
  go_wp2_with fail
  refine Calls.mono HL.out ?_
  rintro e w2 ⟨rfl, hc⟩
  have HC : Hid _ := hc
  clear hc HL
  go_wp2_with fail
  go_ret
  exact ⟨rfl, HC.out⟩
end Go.Proofs.Ytjojhhkbebddmaa.Lt
