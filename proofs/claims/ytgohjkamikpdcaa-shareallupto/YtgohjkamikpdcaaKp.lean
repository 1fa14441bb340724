import Derived.Test.YtgohjkamikpdcaaRts
import Derived.Test.YtgohjkamikpdcaaApI
namespace Go.Proofs.Ytgohjkamikpdcaa
open Go.RowKit Go.PlainAid
set_option linter.unusedVariables false
set_option linter.unusedSimpArgs false
set_option maxRecDepth 100000 in
set_option maxHeartbeats 1600000 in
/-- Two rows of rights that hold the same. -/
theorem sameR_any {L1 L2 n : Nat} {u v : Value} {rs : List (Int × Int)} (w : World) (hu : w.ownsRow L1 38 2 u n (flatR rs)) (hv : w.ownsRow L2 38 2 v n (flatR rs)) (hn : n ≤ 1000) :
    Calls Try.prog 25 #[u, v] w fun r w' => r = .returned (.bool true) ∧ ∃ q, w' = w.drewN q := by
  obtain ⟨ao1, cap1, hu1, _, _, hc1⟩ := own_read hu
  obtain ⟨ao2, cap2, hv1, _, _, hc2⟩ := own_read hv
  have hl := ownR_len hu
  subst hu1 hv1
  have HC1 : Hid _ := hc1
  have HC2 : Hid _ := hc2
  clear hu hv hc1 hc2
  go_enter Try.func25, Try.ntmps25
  go_wp2
  go_loopw [5] (fun i wr => ∃ k q : Nat, k ≤ n ∧ i = .int .i64 k ∧ wr = w.drewN q) (fun i _ => n - (intOf i).toNat)
  case atStart => exact ⟨0, 0, Nat.zero_le _, rfl, rfl⟩
  case round =>
    obtain ⟨k, q, hk, rfl, rfl⟩ := hrel
    by_cases hlt : k < n
    · obtain ⟨g1, e1, _, _, h1⟩ := HC1.out (by omega)
      obtain ⟨g2, e2, _, _, h2⟩ := HC2.out (by omega)
      subst e1 e2
      obtain ⟨p1, p2⟩ := flatR_get (atR_some (rs := rs) (k := k) (by omega))
      have a1 : w.cell? ⟨g1, k * 2, none⟩ = some (.int .i64 (atR rs k).1) := h1 _ _ p1
      have a2 : w.cell? ⟨g1, k * 2 + 1, none⟩ = some (.int .i64 (atR rs k).2) := h1 _ _ p2
      have b1 : w.cell? ⟨g2, k * 2, none⟩ = some (.int .i64 (atR rs k).1) := h2 _ _ p1
      have b2 : w.cell? ⟨g2, k * 2 + 1, none⟩ = some (.int .i64 (atR rs k).2) := h2 _ _ p2
      generalize (atR rs k).1 = x at *
      generalize (atR rs k).2 = y at *
      have c1 : (w.drewN q).cell? ⟨g1, k * 2, none⟩ = some (.int .i64 x) := a1
      have c2 : (w.drewN q).cell? ⟨g1, k * 2 + 1, none⟩ = some (.int .i64 y) := a2
      have d1 : (w.drewN q).cell? ⟨g2, k * 2, none⟩ = some (.int .i64 x) := b1
      have d2 : (w.drewN q).cell? ⟨g2, k * 2 + 1, none⟩ = some (.int .i64 y) := b2
      clear HC1 HC2 h1 h2 p1 p2
      go_wp2
      go_quiet (fail)
      go_wp2
      go_roundw
      case rel => exact ⟨k + 1, _, by omega, by go_num, rfl⟩
      case measure => simp [intOf]; omega
    · go_wp2
      go_ret
      exact ⟨rfl, _, rfl⟩
structure Ent where
  v : Value
  n : Nat
  m : Int
def fullI (n : Nat) (m : Int) : List Value := (List.replicate n (-1000 - m)).map I
def fullR (n : Nat) (m : Int) : List Value := flatR (List.replicate n (-1000 - m, 0))
theorem ty_ne {w : World} {L1 L2 t1 t2 s1 s2 n1 n2 : Nat} {u v : Value} {xs ys : List Value} (h1 : w.ownsRow L1 t1 s1 u n1 xs) (h2 : w.ownsRow L2 t2 s2 v n2 ys) (ht : t1 ≠ t2) (g : Nat) (e1 : u.ownBlock = some g) : v.ownBlock ≠ some g := fun e2 => by
  obtain ⟨c1, q1⟩ := ownsRow_type h1 e1
  obtain ⟨c2, q2⟩ := ownsRow_type h2 e2
  exact Blk.ne_t q1 q2 ht rfl
theorem kb_ne {w : World} {L t s n kb : Nat} {v : Value} {xs : List Value} {C : Array Value} (h1 : w.ownsRow L t s v n xs) (h2 : Blk w kb C 44) (ht : t ≠ 44) (g : Nat) (e1 : v.ownBlock = some g) : g ≠ kb := by
  obtain ⟨c1, q1⟩ := ownsRow_type h1 e1
  exact Blk.ne_t q1 h2 ht
/-- A keep whose lists are written over at once. -/
structure KE (L kb : Nat) (vI vM vR vN : Value) (e1 e2 r1 r2 : List Ent) (w : World) : Prop where
  blk : Blk w kb #[.bool false, vI, .slice none 0 0, vM, vR, .slice none 0 0, vN] 44
  xi : w.ownsRow L 22 1 vI e1.length (e1.map Ent.v)
  xm : w.ownsRow L 3 1 vM e2.length ((e2.map Ent.m).map I)
  en : ∀ e ∈ e1, w.ownsRow L 3 1 e.v e.n (fullI e.n e.m)
  yi : w.ownsRow L 34 1 vR r1.length (r1.map Ent.v)
  ym : w.ownsRow L 3 1 vN r2.length ((r2.map Ent.m).map I)
  rn : ∀ e ∈ r1, w.ownsRow L 38 2 e.v e.n (fullR e.n e.m)
  ap : ∀ e ∈ e1, ∀ g, e.v.ownBlock = some g → vM.ownBlock ≠ some g ∧ vN.ownBlock ≠ some g
  mm : ∀ g, vM.ownBlock = some g → vN.ownBlock ≠ some g
  lk : L ≤ kb
/-- Which blocks are the keep's. -/
def KB (kb : Nat) (vI vM vR vN : Value) (e1 r1 : List Ent) (k : Nat) : Prop := k = kb ∨ vI.ownBlock = some k ∨ vM.ownBlock = some k ∨ vR.ownBlock = some k ∨ vN.ownBlock = some k ∨ (∃ e ∈ e1, e.v.ownBlock = some k) ∨ ∃ e ∈ r1, e.v.ownBlock = some k
section
variable {L kb : Nat} {vI vM vR vN v' far far' : Value} {e1 e2 r1 r2 : List Ent} {w w2 : World} {B : Nat → Prop}
theorem KE.lt (h : KE L kb vI vM vR vN e1 e2 r1 r2 w) {k : Nat} (hk : KB kb vI vM vR vN e1 r1 k) : L ≤ k ∧ k < w.heap.size := by
  rcases hk with rfl | e | e | e | e | ⟨x, hx, e⟩ | ⟨x, hx, e⟩
  · exact ⟨h.lk, h.blk.lt⟩
  · exact ownsRow_lt h.xi e
  · exact ownsRow_lt h.xm e
  · exact ownsRow_lt h.yi e
  · exact ownsRow_lt h.ym e
  · exact ownsRow_lt (h.en x hx) e
  · exact ownsRow_lt (h.rn x hx) e
theorem KE.frame (h : KE L kb vI vM vR vN e1 e2 r1 r2 w) (hc : Chg B w w2) (hB : ∀ k, KB kb vI vM vR vN e1 r1 k → ¬ B k) : KE L kb vI vM vR vN e1 e2 r1 r2 w2 := by
  have hs := fun k (hk : KB kb vI vM vR vN e1 r1 k) => hc.block k (h.lt hk).2 (hB k hk)
  exact ⟨hc.blk h.blk (hB kb (.inl rfl)), ownsRow_same h.xi (fun g e => hs g (.inr (.inl e))), ownsRow_same h.xm (fun g e => hs g (.inr (.inr (.inl e)))), fun x hx => ownsRow_same (h.en x hx) (fun g e => hs g (.inr (.inr (.inr (.inr (.inr (.inl ⟨x, hx, e⟩))))))), ownsRow_same h.yi (fun g e => hs g (.inr (.inr (.inr (.inl e))))), ownsRow_same h.ym (fun g e => hs g (.inr (.inr (.inr (.inr (.inl e)))))), fun x hx => ownsRow_same (h.rn x hx) (fun g e => hs g (.inr (.inr (.inr (.inr (.inr (.inr ⟨x, hx, e⟩))))))), h.ap, h.mm, h.lk⟩
theorem KE.more (h : KE L kb vI vM vR vN e1 e2 r1 r2 w) (hb : Below w.heap.size w w2) : KE L kb vI vM vR vN e1 e2 r1 r2 w2 := h.frame (Chg.ofBelow (fun _ => False) hb) (fun _ _ e => e)
/-- A list is put behind the others. -/
theorem KE.addI (h : KE L kb vI vM vR vN e1 e2 r1 r2 w) (x : Ent) (hx : w.ownsRow L 3 1 x.v x.n (fullI x.n x.m)) (hap : ∀ g, x.v.ownBlock = some g → vM.ownBlock ≠ some g ∧ vN.ownBlock ≠ some g)
    (h1 : w2.ownsRow L 22 1 v' (e1.length + 1) ((e1 ++ [x]).map Ent.v)) (h2 : Grew w w2 vI v') :
    KE L kb v' vM vR vN (e1 ++ [x]) e2 r1 r2 (w2.setCell ⟨kb, 1, none⟩ v') ∧ w2.frozen? ⟨kb, 1, none⟩ = false ∧ w2.cell? ⟨kb, 1, none⟩ = some vI ∧ Chg (fun k => k = kb ∨ vI.ownBlock = some k) w (w2.setCell ⟨kb, 1, none⟩ v') := by
  have hlt : ∀ g, vI.ownBlock = some g → g ≠ kb := kb_ne h.xi h.blk (by decide)
  have hk2 : Blk w2 kb #[.bool false, vI, .slice none 0 0, vM, vR, .slice none 0 0, vN] 44 := h2.chg.blk h.blk (fun e => hlt kb e rfl)
  have hc : Chg (fun k => k = kb ∨ vI.ownBlock = some k) w (w2.setCell ⟨kb, 1, none⟩ v') := (h2.chg.mono (fun j _ e => Or.inr e)).trans (Chg.setCell _) (fun j _ e => Or.inl e)
  have hB : ∀ {t s n : Nat} {u : Value} {xs : List Value}, w.ownsRow L t s u n xs → t ≠ 44 → t ≠ 22 → (w2.setCell ⟨kb, 1, none⟩ v').ownsRow L t s u n xs := fun hu h44 hts => ownsRow_same hu (fun g e => hc.block g (ownsRow_lt hu e).2 (fun hb => by
    rcases hb with hb | hb
    · exact kb_ne hu h.blk h44 g e hb
    · exact ty_ne hu h.xi hts g e hb))
  have hnew : (w2.setCell ⟨kb, 1, none⟩ v').ownsRow L 22 1 v' (e1 ++ [x]).length ((e1 ++ [x]).map Ent.v) := by
    rw [List.length_append]
    refine ownsRow_same h1 (fun g e => Below.heap_setCell _ _ _ _ (fun e2 => ?_))
    have : kb < w.heap.size := h.blk.lt
    replace e2 : g = kb := e2
    rcases h2.at' g e with q | q
    · exact hlt g q e2
    · omega
  refine ⟨⟨hk2.set 1 v', hnew, hB h.xm (by decide) (by decide), fun e he => by rcases List.mem_append.1 he with q | q; exact hB (h.en e q) (by decide) (by decide); rw [List.mem_singleton.1 q]; exact hB hx (by decide) (by decide), hB h.yi (by decide) (by decide), hB h.ym (by decide) (by decide), fun e he => hB (h.rn e he) (by decide) (by decide), fun e he => by rcases List.mem_append.1 he with q | q; exact h.ap e q; rw [List.mem_singleton.1 q]; exact hap, h.mm, h.lk⟩, hk2.frozen _, hk2.cell _, hc⟩
/-- A mark is put behind the others. -/
theorem KE.markI (h : KE L kb vI vM vR vN e1 e2 r1 r2 w) (x : Ent) (h1 : w2.ownsRow L 3 1 v' (e2.length + 1) ((e2.map Ent.m ++ [x.m]).map I)) (h2 : Grew w w2 vM v') :
    KE L kb vI v' vR vN e1 (e2 ++ [x]) r1 r2 (w2.setCell ⟨kb, 3, none⟩ v') ∧ w2.frozen? ⟨kb, 3, none⟩ = false ∧ w2.cell? ⟨kb, 3, none⟩ = some vM ∧ Chg (fun k => k = kb ∨ vM.ownBlock = some k) w (w2.setCell ⟨kb, 3, none⟩ v') := by
  have hlt : ∀ g, vM.ownBlock = some g → g ≠ kb := kb_ne h.xm h.blk (by decide)
  have hk2 : Blk w2 kb #[.bool false, vI, .slice none 0 0, vM, vR, .slice none 0 0, vN] 44 := h2.chg.blk h.blk (fun e => hlt kb e rfl)
  have hc : Chg (fun k => k = kb ∨ vM.ownBlock = some k) w (w2.setCell ⟨kb, 3, none⟩ v') := (h2.chg.mono (fun j _ e => Or.inr e)).trans (Chg.setCell _) (fun j _ e => Or.inl e)
  have hB : ∀ {t s n : Nat} {u : Value} {xs : List Value}, w.ownsRow L t s u n xs → t ≠ 44 → (∀ g, u.ownBlock = some g → vM.ownBlock ≠ some g) → (w2.setCell ⟨kb, 3, none⟩ v').ownsRow L t s u n xs ∧ ∀ g, u.ownBlock = some g → v'.ownBlock ≠ some g := fun hu h44 hts => ⟨ownsRow_same hu (fun g e => hc.block g (ownsRow_lt hu e).2 (fun hb => by
    rcases hb with hb | hb
    · exact kb_ne hu h.blk h44 g e hb
    · exact hts g e hb)), fun g e e2 => by
    rcases h2.at' g e2 with q | q
    · exact hts g e q
    · have := (ownsRow_lt hu e).2; omega⟩
  have hnew : (w2.setCell ⟨kb, 3, none⟩ v').ownsRow L 3 1 v' (e2 ++ [x]).length (((e2 ++ [x]).map Ent.m).map I) := by
    rw [List.length_append, List.map_append]
    refine ownsRow_same h1 (fun g e => Below.heap_setCell _ _ _ _ (fun e2 => ?_))
    have : kb < w.heap.size := h.blk.lt
    replace e2 : g = kb := e2
    rcases h2.at' g e with q | q
    · exact hlt g q e2
    · omega
  refine ⟨⟨hk2.set 3 v', (hB h.xi (by decide) (ty_ne h.xi h.xm (by decide))).1, hnew, fun e he => (hB (h.en e he) (by decide) (fun g q => (h.ap e he g q).1)).1, (hB h.yi (by decide) (ty_ne h.yi h.xm (by decide))).1, (hB h.ym (by decide) (fun g q1 q2 => h.mm g q2 q1)).1, fun e he => (hB (h.rn e he) (by decide) (ty_ne (h.rn e he) h.xm (by decide))).1, fun e he g q => ⟨(hB (h.en e he) (by decide) (fun g q => (h.ap e he g q).1)).2 g q, (h.ap e he g q).2⟩, fun g q1 q2 => (hB h.ym (by decide) (fun g q1 q2 => h.mm g q2 q1)).2 g q2 q1, h.lk⟩, hk2.frozen _, hk2.cell _, hc⟩
/-- A list that is held grows. -/
theorem KE.farI {nf : Nat} {xs : List Value} (h : KE L kb vI vM vR vN e1 e2 r1 r2 w) (hf : w.ownsRow L 3 1 far nf xs) (hap : ∀ g, far.ownBlock = some g → vM.ownBlock ≠ some g ∧ vN.ownBlock ≠ some g) (hle : ∀ e ∈ e1, ∀ g, far.ownBlock = some g → e.v.ownBlock = some g → e.n ≤ nf)
    (h2 : Grew w w2 far far') (h3 : ∀ (d : Value) (n base' : Nat) (zs : List Value), n ≤ nf → d.ownBlock = far.ownBlock → w.ownsRow base' 3 1 d n zs → w2.ownsRow base' 3 1 d n zs) :
    KE L kb vI vM vR vN e1 e2 r1 r2 w2 ∧ (∀ g, far'.ownBlock = some g → vM.ownBlock ≠ some g ∧ vN.ownBlock ≠ some g) ∧ ∀ e ∈ e1, ∀ g, far'.ownBlock = some g → e.v.ownBlock = some g → e.n ≤ nf + 1 := by
  have hc := h2.chg
  have hB : ∀ {t s n : Nat} {u : Value} {xs : List Value}, w.ownsRow L t s u n xs → (∀ g, u.ownBlock = some g → far.ownBlock ≠ some g) → w2.ownsRow L t s u n xs := fun hu hts => ownsRow_same hu (fun g e => hc.block g (ownsRow_lt hu e).2 (fun hb => hts g e hb))
  have hE : ∀ e ∈ e1, w2.ownsRow L 3 1 e.v e.n (fullI e.n e.m) := fun e he => by
    by_cases q : ∃ g, far.ownBlock = some g ∧ e.v.ownBlock = some g
    · obtain ⟨g, q1, q2⟩ := q
      exact h3 e.v e.n L _ (hle e he g q1 q2) (q2.trans q1.symm) (h.en e he)
    · exact hB (h.en e he) (fun g q1 q2 => q ⟨g, q2, q1⟩)
  refine ⟨⟨hc.blk h.blk (fun e => kb_ne hf h.blk (by decide) kb e rfl), hB h.xi (ty_ne h.xi hf (by decide)), hB h.xm (fun g q1 q2 => (hap g q2).1 q1), hE, hB h.yi (ty_ne h.yi hf (by decide)), hB h.ym (fun g q1 q2 => (hap g q2).2 q1), fun e he => hB (h.rn e he) (ty_ne (h.rn e he) hf (by decide)), h.ap, h.mm, h.lk⟩, fun g e => ?_, fun e he g q1 q2 => ?_⟩
  · rcases h2.at' g e with q | q
    · exact hap g q
    · exact ⟨fun e2 => by have := (ownsRow_lt h.xm e2).2; omega, fun e2 => by have := (ownsRow_lt h.ym e2).2; omega⟩
  · rcases h2.at' g q1 with q | q
    · have := hle e he g q q2; omega
    · have := (ownsRow_lt (h.en e he) q2).2; omega
/-- A list is put behind the others. -/
theorem KE.addR (h : KE L kb vI vM vR vN e1 e2 r1 r2 w) (x : Ent) (hx : w.ownsRow L 38 2 x.v x.n (fullR x.n x.m)) (hap : ∀ g, x.v.ownBlock = some g → vM.ownBlock ≠ some g ∧ vN.ownBlock ≠ some g)
    (h1 : w2.ownsRow L 34 1 v' (r1.length + 1) ((r1 ++ [x]).map Ent.v)) (h2 : Grew w w2 vR v') :
    KE L kb vI vM v' vN e1 e2 (r1 ++ [x]) r2 (w2.setCell ⟨kb, 4, none⟩ v') ∧ w2.frozen? ⟨kb, 4, none⟩ = false ∧ w2.cell? ⟨kb, 4, none⟩ = some vR ∧ Chg (fun k => k = kb ∨ vR.ownBlock = some k) w (w2.setCell ⟨kb, 4, none⟩ v') := by
  have hlt : ∀ g, vR.ownBlock = some g → g ≠ kb := kb_ne h.yi h.blk (by decide)
  have hk2 : Blk w2 kb #[.bool false, vI, .slice none 0 0, vM, vR, .slice none 0 0, vN] 44 := h2.chg.blk h.blk (fun e => hlt kb e rfl)
  have hc : Chg (fun k => k = kb ∨ vR.ownBlock = some k) w (w2.setCell ⟨kb, 4, none⟩ v') := (h2.chg.mono (fun j _ e => Or.inr e)).trans (Chg.setCell _) (fun j _ e => Or.inl e)
  have hB : ∀ {t s n : Nat} {u : Value} {xs : List Value}, w.ownsRow L t s u n xs → t ≠ 44 → t ≠ 34 → (w2.setCell ⟨kb, 4, none⟩ v').ownsRow L t s u n xs := fun hu h44 hts => ownsRow_same hu (fun g e => hc.block g (ownsRow_lt hu e).2 (fun hb => by
    rcases hb with hb | hb
    · exact kb_ne hu h.blk h44 g e hb
    · exact ty_ne hu h.yi hts g e hb))
  have hnew : (w2.setCell ⟨kb, 4, none⟩ v').ownsRow L 34 1 v' (r1 ++ [x]).length ((r1 ++ [x]).map Ent.v) := by
    rw [List.length_append]
    refine ownsRow_same h1 (fun g e => Below.heap_setCell _ _ _ _ (fun e2 => ?_))
    have : kb < w.heap.size := h.blk.lt
    replace e2 : g = kb := e2
    rcases h2.at' g e with q | q
    · exact hlt g q e2
    · omega
  refine ⟨⟨hk2.set 4 v', hB h.xi (by decide) (by decide), hB h.xm (by decide) (by decide), fun e he => hB (h.en e he) (by decide) (by decide), hnew, hB h.ym (by decide) (by decide), fun e he => by rcases List.mem_append.1 he with q | q; exact hB (h.rn e q) (by decide) (by decide); rw [List.mem_singleton.1 q]; exact hB hx (by decide) (by decide), h.ap, h.mm, h.lk⟩, hk2.frozen _, hk2.cell _, hc⟩
/-- A mark is put behind the others. -/
theorem KE.markR (h : KE L kb vI vM vR vN e1 e2 r1 r2 w) (x : Ent) (h1 : w2.ownsRow L 3 1 v' (r2.length + 1) ((r2.map Ent.m ++ [x.m]).map I)) (h2 : Grew w w2 vN v') :
    KE L kb vI vM vR v' e1 e2 r1 (r2 ++ [x]) (w2.setCell ⟨kb, 6, none⟩ v') ∧ w2.frozen? ⟨kb, 6, none⟩ = false ∧ w2.cell? ⟨kb, 6, none⟩ = some vN ∧ Chg (fun k => k = kb ∨ vN.ownBlock = some k) w (w2.setCell ⟨kb, 6, none⟩ v') := by
  have hlt : ∀ g, vN.ownBlock = some g → g ≠ kb := kb_ne h.ym h.blk (by decide)
  have hk2 : Blk w2 kb #[.bool false, vI, .slice none 0 0, vM, vR, .slice none 0 0, vN] 44 := h2.chg.blk h.blk (fun e => hlt kb e rfl)
  have hc : Chg (fun k => k = kb ∨ vN.ownBlock = some k) w (w2.setCell ⟨kb, 6, none⟩ v') := (h2.chg.mono (fun j _ e => Or.inr e)).trans (Chg.setCell _) (fun j _ e => Or.inl e)
  have hB : ∀ {t s n : Nat} {u : Value} {xs : List Value}, w.ownsRow L t s u n xs → t ≠ 44 → (∀ g, u.ownBlock = some g → vN.ownBlock ≠ some g) → (w2.setCell ⟨kb, 6, none⟩ v').ownsRow L t s u n xs ∧ ∀ g, u.ownBlock = some g → v'.ownBlock ≠ some g := fun hu h44 hts => ⟨ownsRow_same hu (fun g e => hc.block g (ownsRow_lt hu e).2 (fun hb => by
    rcases hb with hb | hb
    · exact kb_ne hu h.blk h44 g e hb
    · exact hts g e hb)), fun g e e2 => by
    rcases h2.at' g e2 with q | q
    · exact hts g e q
    · have := (ownsRow_lt hu e).2; omega⟩
  have hnew : (w2.setCell ⟨kb, 6, none⟩ v').ownsRow L 3 1 v' (r2 ++ [x]).length (((r2 ++ [x]).map Ent.m).map I) := by
    rw [List.length_append, List.map_append]
    refine ownsRow_same h1 (fun g e => Below.heap_setCell _ _ _ _ (fun e2 => ?_))
    have : kb < w.heap.size := h.blk.lt
    replace e2 : g = kb := e2
    rcases h2.at' g e with q | q
    · exact hlt g q e2
    · omega
  refine ⟨⟨hk2.set 6 v', (hB h.xi (by decide) (ty_ne h.xi h.ym (by decide))).1, (hB h.xm (by decide) h.mm).1, fun e he => (hB (h.en e he) (by decide) (fun g q => (h.ap e he g q).2)).1, (hB h.yi (by decide) (ty_ne h.yi h.ym (by decide))).1, hnew, fun e he => (hB (h.rn e he) (by decide) (ty_ne (h.rn e he) h.ym (by decide))).1, fun e he g q => ⟨(h.ap e he g q).1, (hB (h.en e he) (by decide) (fun g q => (h.ap e he g q).2)).2 g q⟩, (hB h.xm (by decide) h.mm).2, h.lk⟩, hk2.frozen _, hk2.cell _, hc⟩
/-- A list that is held grows. -/
theorem KE.farR {nf : Nat} {xs : List Value} (h : KE L kb vI vM vR vN e1 e2 r1 r2 w) (hf : w.ownsRow L 38 2 far nf xs) (hap : ∀ g, far.ownBlock = some g → vM.ownBlock ≠ some g ∧ vN.ownBlock ≠ some g) (hle : ∀ e ∈ r1, ∀ g, far.ownBlock = some g → e.v.ownBlock = some g → e.n ≤ nf)
    (h2 : Grew w w2 far far') (h3 : ∀ (d : Value) (n base' : Nat) (zs : List Value), n ≤ nf → d.ownBlock = far.ownBlock → w.ownsRow base' 38 2 d n zs → w2.ownsRow base' 38 2 d n zs) :
    KE L kb vI vM vR vN e1 e2 r1 r2 w2 ∧ (∀ g, far'.ownBlock = some g → vM.ownBlock ≠ some g ∧ vN.ownBlock ≠ some g) ∧ ∀ e ∈ r1, ∀ g, far'.ownBlock = some g → e.v.ownBlock = some g → e.n ≤ nf + 1 := by
  have hc := h2.chg
  have hB : ∀ {t s n : Nat} {u : Value} {xs : List Value}, w.ownsRow L t s u n xs → (∀ g, u.ownBlock = some g → far.ownBlock ≠ some g) → w2.ownsRow L t s u n xs := fun hu hts => ownsRow_same hu (fun g e => hc.block g (ownsRow_lt hu e).2 (fun hb => hts g e hb))
  have hE : ∀ e ∈ r1, w2.ownsRow L 38 2 e.v e.n (fullR e.n e.m) := fun e he => by
    by_cases q : ∃ g, far.ownBlock = some g ∧ e.v.ownBlock = some g
    · obtain ⟨g, q1, q2⟩ := q
      exact h3 e.v e.n L _ (hle e he g q1 q2) (q2.trans q1.symm) (h.rn e he)
    · exact hB (h.rn e he) (fun g q1 q2 => q ⟨g, q2, q1⟩)
  refine ⟨⟨hc.blk h.blk (fun e => kb_ne hf h.blk (by decide) kb e rfl), hB h.xi (ty_ne h.xi hf (by decide)), hB h.xm (ty_ne h.xm hf (by decide)), fun e he => hB (h.en e he) (ty_ne (h.en e he) hf (by decide)), hB h.yi (ty_ne h.yi hf (by decide)), hB h.ym (ty_ne h.ym hf (by decide)), hE, h.ap, h.mm, h.lk⟩, fun g e => ?_, fun e he g q1 q2 => ?_⟩
  · rcases h2.at' g e with q | q
    · exact hap g q
    · exact ⟨fun e2 => by have := (ownsRow_lt h.xm e2).2; omega, fun e2 => by have := (ownsRow_lt h.ym e2).2; omega⟩
  · rcases h2.at' g q1 with q | q
    · have := hle e he g q q2; omega
    · have := (ownsRow_lt (h.rn e he) q2).2; omega
end
end Go.Proofs.Ytgohjkamikpdcaa
