import Derived.Test.YtifgmefdlmjocaaDgs
namespace Go.Proofs.Ytifgmefdlmjocaa
open Go.RowKit Go.PlainAid Go.MapKept
set_option linter.unusedVariables false
set_option linter.unusedSimpArgs false
/-- A pair and the book within a call of digests that began at w. -/
structure KS (L0 pb hb mb rb kb nd : Nat) (me N : Int) (dg kn v ds k0 ks : Value) (L A : List Ent) (ents : List (Value × Value)) (rs : List RW) (w wr : World) : Prop where
  box : Blk wr pb #[.pointer (some ⟨hb, 0, none⟩), .pointer (some ⟨rb, 0, none⟩), dg, kn, .pointer (some ⟨kb, 0, none⟩)] 68
  vw : Vw hb mb me N L wr
  rv : RVw L0 rb me N v A wr
  kbx : Blk wr kb #[ds, ks] 90
  ksr : wr.ownsRow L0 109 3 ks ents.length (flatD ents)
  rg : RG L0 44 2 rs wr
  dr : wr.ownsRow L0 46 7 dg nd (flatV (mkV (-1) nd))
  chg : Chg (fun k => k = pb ∨ k = kb ∨ k0.ownBlock = some k) w wr
  at' : ∀ g, ks.ownBlock = some g → k0.ownBlock = some g ∨ w.heap.size ≤ g
section
variable {L0 pb hb mb rb kb nd : Nat} {me N : Int} {dg kn v ds k0 ks : Value} {L A : List Ent} {ents : List (Value × Value)} {rs : List RW} {w wr w2 : World}
theorem KS.keep {rs2 : List RW} (h : KS L0 pb hb mb rb kb nd me N dg kn v ds k0 ks L A ents rs w wr) {B : Nat → Prop} (hc : Chg B wr w2) (hB : ∀ k cu T, Blk wr k cu T → T ≠ 44 → ¬ B k) (hm : ¬ B mb) (hlo : ∀ k, B k → w.heap.size ≤ k) (hrg : RG L0 44 2 rs2 w2) : KS L0 pb hb mb rb kb nd me N dg kn v ds k0 ks L A ents rs2 w w2 := by
  have hr : ∀ {base e s n : Nat} {u : Value} {xs : List Value}, e ≠ 44 → wr.ownsRow base e s u n xs → w2.ownsRow base e s u n xs := fun he ho => ownsRow_same ho (fun g hg => hc.block g (ownsRow_lt ho hg).2 (by obtain ⟨cu, hcu⟩ := ownsRow_type ho hg; exact hB g cu _ hcu he))
  exact ⟨hc.blk h.box (hB _ _ _ h.box (by decide)), h.vw.keep hc (hB _ _ _ h.vw.blk (by decide)) hm, ⟨hc.blk h.rv.blk (hB _ _ _ h.rv.blk (by decide)), hr (by decide) h.rv.row, h.rv.lo⟩, hc.blk h.kbx (hB _ _ _ h.kbx (by decide)), hr (by decide) h.ksr, hrg, hr (by decide) h.dr, h.chg.trans hc (fun j hj hb => by have := hlo j hb; omega), h.at'⟩
theorem KS.more (h : KS L0 pb hb mb rb kb nd me N dg kn v ds k0 ks L A ents rs w wr) (hb' : Below wr.heap.size wr w2) : KS L0 pb hb mb rb kb nd me N dg kn v ds k0 ks L A ents rs w w2 :=
  h.keep (Chg.ofBelow (fun _ => False) hb') (fun _ _ _ _ _ e => e) (fun e => e) (fun _ e => e.elim) (h.rg.more hb')
theorem KS.fresh (h : KS L0 pb hb mb rb kb nd me N dg kn v ds k0 ks L A ents rs w wr) (hb' : Below wr.heap.size wr w2) {u : Value} {n : Nat} {xs : List Value} (ho : w2.ownsRow wr.heap.size 44 2 u n xs) (hL : L0 ≤ wr.heap.size) : KS L0 pb hb mb rb kb nd me N dg kn v ds k0 ks L A ents ((u, n, xs) :: rs) w w2 :=
  h.keep (Chg.ofBelow (fun _ => False) hb') (fun _ _ _ _ _ e => e) (fun e => e) (fun _ e => e.elim) (h.rg.fresh hb' hL ho)
theorem KS.perm {rs2 : List RW} (h : KS L0 pb hb mb rb kb nd me N dg kn v ds k0 ks L A ents rs w wr) (hp : rs.Perm rs2) : KS L0 pb hb mb rb kb nd me N dg kn v ds k0 ks L A ents rs2 w wr := ⟨h.box, h.vw, h.rv, h.kbx, h.ksr, h.rg.perm hp, h.dr, h.chg, h.at'⟩
theorem KS.rows {rs2 : List RW} (h : KS L0 pb hb mb rb kb nd me N dg kn v ds k0 ks L A ents rs w wr) (hr : RG L0 44 2 rs2 wr) : KS L0 pb hb mb rb kb nd me N dg kn v ds k0 ks L A ents rs2 w wr := ⟨h.box, h.vw, h.rv, h.kbx, h.ksr, hr, h.dr, h.chg, h.at'⟩
theorem KS.set {u : Value} {n n' : Nat} {xs xs' : List Value} (h : KS L0 pb hb mb rb kb nd me N dg kn v ds k0 ks L A ents ((u, n, xs) :: rs) w wr) (hc : Chg (fun k => u.ownBlock = some k) wr w2) (ho : w2.ownsRow L0 44 2 u n' xs') (hlo : ∀ g, u.ownBlock = some g → w.heap.size ≤ g) : KS L0 pb hb mb rb kb nd me N dg kn v ds k0 ks L A ents ((u, n', xs') :: rs) w w2 :=
  h.keep hc (fun k cu T hB hT e => row_ne h.rg.head hB hT e) (fun e => by obtain ⟨cu, hcu⟩ := ownsRow_type h.rg.head e; exact h.vw.map.ne_b (show Blk wr mb cu 44 from hcu) rfl) hlo (h.rg.set hc ho)
end
theorem KS.push {L0 pb hb mb rb kb nd : Nat} {me N : Int} {dg kn v ds k0 ks : Value} {L A : List Ent} {ents : List (Value × Value)} {rs : List RW} {w Y w5 : World} (h : KS L0 pb hb mb rb kb nd me N dg kn v ds k0 ks L A ents rs w Y) {v5 : Value} (lv wv : Value) (ho : w5.ownsRow L0 109 3 v5 (ents.length + 1) (flatD ents ++ [lv, wv, .slice none 0 0])) (hg : Grew Y w5 ks v5) :
    KS L0 pb hb mb rb kb nd me N dg kn v ds k0 v5 L A (ents ++ [(lv, wv)]) rs w (w5.setCell ⟨kb, 1, none⟩ v5) := by
  have c2 := setCell_chg w5 kb 1 v5
  have hc : Chg (fun k => k = kb ∨ ks.ownBlock = some k) Y (w5.setCell ⟨kb, 1, none⟩ v5) := (hg.chg.mono (fun _ _ e => Or.inr e)).trans c2 (fun _ _ e => Or.inl e)
  have hB : ∀ {b : Nat} {E : Array Value} {U : TypeId}, Blk Y b E U → U ≠ 90 → U ≠ 109 → ¬ (b = kb ∨ ks.ownBlock = some b) := fun hb h1 h2 e => e.elim (hb.ne_t h.kbx h1) (row_ne h.ksr hb h2)
  have hr : ∀ {base e s n : Nat} {u : Value} {xs : List Value}, e ≠ 90 → e ≠ 109 → Y.ownsRow base e s u n xs → (w5.setCell ⟨kb, 1, none⟩ v5).ownsRow base e s u n xs := fun h1 h2 ho => ownsRow_same ho (fun g hg => hc.block g (ownsRow_lt ho hg).2 (by obtain ⟨cu, hcu⟩ := ownsRow_type ho hg; exact hB (show Blk Y g cu _ from hcu) h1 h2))
  have hK5 : Blk w5 kb #[ds, ks] 90 := hg.chg.blk h.kbx (row_ne h.ksr h.kbx (by decide))
  have hmb : ¬ (mb = kb ∨ ks.ownBlock = some mb) := fun e => e.elim (fun e => h.vw.map.ne_b h.kbx e.symm) (fun e => by obtain ⟨cu, hcu⟩ := ownsRow_type h.ksr e; exact h.vw.map.ne_b (show Blk Y mb cu 109 from hcu) rfl)
  refine ⟨hc.blk h.box (hB h.box (by decide) (by decide)), h.vw.keep hc (hB h.vw.blk (by decide) (by decide)) hmb, ⟨hc.blk h.rv.blk (hB h.rv.blk (by decide) (by decide)), hr (by decide) (by decide) h.rv.row, h.rv.lo⟩, hK5.set 1 v5, ?_, ⟨fun x hx => hr (by decide) (by decide) (h.rg.all x hx), h.rg.dj⟩, hr (by decide) (by decide) h.dr, h.chg.trans hc (fun j hj e => ?_), fun g hg' => ?_⟩
  · rw [flatD_app, List.length_append]
    exact ownsRow_same ho (fun g hg' => c2.block g (ownsRow_lt ho hg').2 (fun e => row_ne ho hK5 (by decide) (by rw [← e]; exact hg')))
  · rcases e with e | e
    · exact Or.inr (Or.inl e)
    · rcases h.at' j e with h1 | h1
      · exact Or.inr (Or.inr h1)
      · omega
  · rcases hg.at' g hg' with h1 | h1
    · exact h.at' g h1
    · exact Or.inr (Nat.le_trans h.chg.size h1)
theorem KS.setKn {L0 pb hb mb rb kb nd : Nat} {me N : Int} {dg kn v ds k0 ks : Value} {L A : List Ent} {ents : List (Value × Value)} {rs : List RW} {w wr : World} (h : KS L0 pb hb mb rb kb nd me N dg kn v ds k0 ks L A ents rs w wr) (kn' : Value) :
    KS L0 pb hb mb rb kb nd me N dg kn' v ds k0 ks L A ents rs w (wr.setCell ⟨pb, 3, none⟩ kn') := by
  have hc := setCell_chg wr pb 3 kn'
  have hr : ∀ {base e s n : Nat} {u : Value} {xs : List Value}, e ≠ 68 → wr.ownsRow base e s u n xs → (wr.setCell ⟨pb, 3, none⟩ kn').ownsRow base e s u n xs := fun h1 ho => ownsRow_same ho (fun g hg => hc.block g (ownsRow_lt ho hg).2 (by obtain ⟨cu, hcu⟩ := ownsRow_type ho hg; exact Blk.ne_t (show Blk wr g cu _ from hcu) h.box h1))
  exact ⟨h.box.set 3 kn', h.vw.keep hc (h.vw.blk.ne_t h.box (by decide)) (fun e => h.vw.map.ne_b h.box e.symm), ⟨hc.blk h.rv.blk (h.rv.blk.ne_t h.box (by decide)), hr (by decide) h.rv.row, h.rv.lo⟩, hc.blk h.kbx (h.kbx.ne_t h.box (by decide)), hr (by decide) h.ksr, ⟨fun x hx => hr (by decide) (h.rg.all x hx), h.rg.dj⟩, hr (by decide) h.dr, h.chg.trans hc (fun _ _ e => Or.inl e), h.at'⟩
theorem info109 : (Try.prog.info? 109).map (fun i => (i.zero, i.size, i.bytes)) = some (some (.agg #[.slice none 0 0, .slice none 0 0, .slice none 0 0]), 3, 72) := by kernel_rfl
theorem info44s : (Try.prog.info? 44).map (·.size) = some 2 := by kernel_rfl
theorem mkR_succ (b : Int) (q : Nat) : mkR b (q + 1) = mkR b q ++ [(-1 - (q : Int), b)] := by simp [mkR, List.range_succ]
theorem mkR_set {b : Int} {q : Nat} {D : List (Int × Int)} (h : q < D.length) : (mkR b q ++ D.drop q).set q (-1 - (q : Int), b) = mkR b (q + 1) ++ D.drop (q + 1) := by
  rw [List.set_append_right _ _ (by rw [mkR_len]; exact Nat.le_refl _), mkR_len, Nat.sub_self, List.drop_eq_getElem_cons h, List.set_cons_zero, mkR_succ, List.append_assoc]
  rfl
theorem own_blk {w : World} {L g n : Nat} {rs : List (Int × Int)} (hB : Blk w g (flatR rs).toArray 44) (hl : rs.length = n) (hL : L ≤ g) (hn : n ≤ maxLen) : w.ownsRow L 44 2 (.slice (some ⟨g, 0, none⟩) n n) n (flatR rs) := by
  have h1 : (flatR rs).length = n * 2 := by rw [flatR_length, hl]
  refine ⟨h1, Or.inr ⟨g, n, (flatR rs).toArray, rfl, hL, hB, Nat.le_refl _, hn, by simpa using h1, ?_⟩⟩
  simp only [List.toList_toArray]
  rw [List.take_of_length_le (by omega)]
theorem rknownL_len (nm : List UInt8) (A : List Ent) (n : Nat) : (rknownL nm A n).length = n := by simp [rknownL]
theorem row_two {w : World} {L n q : Nat} {ao : Option Addr} {cap : Nat} {rs : List (Int × Int)} (h : w.ownsRow L 44 2 (.slice ao n cap) n (flatR rs)) (hq : q < rs.length) : ∃ g, ao = some ⟨g, 0, none⟩ ∧ w.cell? ⟨g, q * 2, none⟩ = some (.int .i64 rs[q].1) ∧ w.cell? ⟨g, q * 2 + 1, none⟩ = some (.int .i64 rs[q].2) := by
  obtain ⟨_, _, e, _, _, hc⟩ := own_read h
  cases e
  have hl := h.1
  rw [flatR_length] at hl
  obtain ⟨g, e, _, _, h4⟩ := hc (by omega)
  obtain ⟨e0, e1⟩ := flatR_get rs q _ (List.getElem?_eq_getElem hq)
  exact ⟨g, e, h4 _ _ e0, h4 _ _ e1⟩
set_option maxRecDepth 100000 in
set_option maxHeartbeats 12800000 in
theorem knows_any {L0 pb hb mb rb kb M nd nk : Nat} {me : Int} {N : Nat} {dg kn v ds ks : Value} {L A : List Ent} {ents : List (Value × Value)} {R : List RW} (nm : List UInt8) (w : World)
    (hp : PP L0 pb hb mb rb M me N dg kn (.pointer (some ⟨kb, 0, none⟩)) v L A w) (hM : M ≤ 300) (hN : N ≤ 16) (hK : Blk w kb #[ds, ks] 90) (hks : w.ownsRow L0 109 3 ks ents.length (flatD ents)) (hm : ents.length ≤ 1000)
    (hrg : RG L0 44 2 ((kn, nk, flatR (mkR (-7) nk)) :: R) w) (hnk : nk ≤ 100000) (hdr : w.ownsRow L0 46 7 dg nd (flatV (mkV (-1) nd))) (hnd : nd ≤ 100000) (hL : L0 ≤ w.heap.size) :
    Calls Try.prog 45 #[.pointer (some ⟨pb, 0, none⟩), .string ⟨nm.toArray⟩] w fun e w' => e = .returned (.bool true) ∧ ∃ (D : List (Int × Int)) (ks' lv wv kn' : Value), D = rknownL nm A N ∧ KS L0 pb hb mb rb kb nd me N dg kn' v ds ks ks' L A (ents ++ [(lv, wv)]) ((kn', N, flatR (mkR (-7) N)) :: (wv, N, flatR D) :: (lv, N, flatR D) :: R) w w' ∧ (∀ g, kn'.ownBlock = some g → w.heap.size ≤ g) ∧ (∀ g, wv.ownBlock = some g → w.heap.size ≤ g) ∧ (∀ g, lv.ownBlock = some g → w.heap.size ≤ g) := by
  obtain ⟨D, hD⟩ : ∃ D, D = rknownL nm A N := ⟨_, rfl⟩
  have HDL : Hid (D.length = N) := show D.length = N from by rw [hD]; exact rknownL_len _ _ _
  have HDE : Hid (D = rknownL nm A N) := hD
  have HDG : Hid (∀ W, Vw hb mb me N L W → Calls Try.prog 17 #[.pointer (some ⟨hb, 0, none⟩), .string ⟨nm.toArray⟩] W fun e w' => ∃ g, e = .returned (.slice (some ⟨g, 0, none⟩) N N) ∧ w'.ownsRow W.heap.size 44 2 (.slice (some ⟨g, 0, none⟩) N N) N (flatR D) ∧ Below W.heap.size W w') := fun W h => (known_any nm W h hN).mono (by
    rintro e w' ⟨g, rfl, hg, hB, hb⟩
    rw [hp.ag.known, ← hD] at hB
    exact ⟨g, rfl, own_blk hB HDL.out hg (by unfold maxLen; omega), hb⟩)
  have HRD : Hid (∀ W, RVw L0 rb me N v A W → Calls Try.prog 71 #[.pointer (some ⟨rb, 0, none⟩), .string ⟨nm.toArray⟩] W fun e w' => ∃ u, e = .returned u ∧ w'.ownsRow W.heap.size 44 2 u N (flatR D) ∧ Below W.heap.size W w') := fun W h => by have := rknown_any nm W h hN (by have := hp.al; omega); rwa [← hD] at this
  obtain ⟨da, dc, hdv, _⟩ := own_slice hks
  subst hdv
  have HS0 : Hid (KS L0 pb hb mb rb kb nd me N dg kn v ds (.slice da ents.length dc) (.slice da ents.length dc) L A ents ((kn, nk, flatR (mkR (-7) nk)) :: R) w w) := ⟨hp.box, hp.vw, hp.rv, hK, hks, hrg, hdr, Chg.refl _ _, fun g hg => Or.inl hg⟩
  have HL0 : Hid (L0 ≤ w.heap.size) := hL
  have HMM : Hid (ents.length ≤ 1000) := hm
  clear hD hp hK hks hrg hdr hL
  have HMK : Hid (∀ W (y0 y1 y4 kn' : Value) (n' Lb : Nat), Blk W pb #[y0, y1, dg, kn', y4] 68 → W.ownsRow L0 46 7 dg nd (flatV (mkV (-1) nd)) → W.ownsRow Lb 44 2 kn' n' (flatR (mkR (-7) n')) → n' ≤ 100000 → Calls Try.prog 70 #[.pointer (some ⟨pb, 0, none⟩)] W fun e w' => e = .returned (.bool true) ∧ w' = W) := fun W y0 y1 y4 kn' n' Lb h1 h2 h3 h4 => marked_any W h1 h2 h3 hnd h4
  have HSR : Hid (∀ (a b : Int) W, Calls Try.prog 18 #[.agg #[.int .i64 a, .int .i64 b], .agg #[.int .i64 a, .int .i64 b]] W fun e w' => e = .returned (.bool true) ∧ Below W.heap.size W w') := fun a b W => by have := sameRights_any a b a b W; simpa using this
  go_enter Try.func45, Try.ntmps45
  go_wp2_with fail
  rename_i K hK
  try rw [show ∀ a : Act, a.put none undef = a from fun _ => rfl]
  refine wp_region_mix (fun wq => wq.cell? ⟨pb, 0, none⟩ = some (.pointer (some ⟨hb, 0, none⟩)) ∧ wq.cell? ⟨pb, 1, none⟩ = some (.pointer (some ⟨rb, 0, none⟩)) ∧ wq.cell? ⟨pb, 4, none⟩ = some (.pointer (some ⟨kb, 0, none⟩)) ∧ wq.cell? ⟨kb, 1, none⟩ = some (.slice da ents.length dc)) (fun i => i == 16 || i == 22 || i == 24 || i == 25 || i == 28) 28 (by kernel_rfl) rfl (by kernel_rfl) (by kernel_rfl) (by kernel_rfl) ?_
  refine withFrP (N := 156) rfl ?_
  intro f0 F0 hff
  have ee0 : f0 0 = Value.pointer (some ⟨pb, 0, none⟩) := hff 0
  have ee1 : f0 1 = Value.string ⟨nm.toArray⟩ := hff 1
  clear hff
  have HSD : KS L0 pb hb mb rb kb nd me N dg kn v ds (.slice da ents.length dc) (.slice da ents.length dc) L A ents ((kn, nk, flatR (mkR (-7) nk)) :: R) w (({ w with drawn := w.drawn + 1 } : World)) := HS0.out.more (Below.drew (Below.refl w.heap.size w))
  have HCA : ∀ (W : World) (rs : List RW), KS L0 pb hb mb rb kb nd me N dg kn v ds (.slice da ents.length dc) (.slice da ents.length dc) L A ents rs w W → (fun wq => wq.cell? ⟨pb, 0, none⟩ = some (.pointer (some ⟨hb, 0, none⟩)) ∧ wq.cell? ⟨pb, 1, none⟩ = some (.pointer (some ⟨rb, 0, none⟩)) ∧ wq.cell? ⟨pb, 4, none⟩ = some (.pointer (some ⟨kb, 0, none⟩)) ∧ wq.cell? ⟨kb, 1, none⟩ = some (.slice da ents.length dc)) W := fun W rs h => ⟨h.box.cell 0, h.box.cell 1, h.box.cell 4, h.kbx.cell 1⟩
  have HCC : (fun wq => wq.cell? ⟨pb, 0, none⟩ = some (.pointer (some ⟨hb, 0, none⟩)) ∧ wq.cell? ⟨pb, 1, none⟩ = some (.pointer (some ⟨rb, 0, none⟩)) ∧ wq.cell? ⟨pb, 4, none⟩ = some (.pointer (some ⟨kb, 0, none⟩)) ∧ wq.cell? ⟨kb, 1, none⟩ = some (.slice da ents.length dc)) (({ w with drawn := w.drawn + 1 } : World)) := HCA _ _ HSD
  refine lyp F0 rfl HCC rfl (by omega) (wanted_none rfl) (v := Value.pointer (some ⟨pb, 0, none⟩)) (fun wr hwr => by simp only [execOp, (F0.eval 0 (by omega)).trans (show _ = Value.pointer (some ⟨pb, 0, none⟩) from by simp [upd, ee0, ee1])]; first | rfl | simp [go_sem]) fun F1 => ?_
  refine lyp F1 rfl HCC rfl (by omega) (wanted_none rfl) (v := Value.pointer (some ⟨pb, 0, none⟩)) (fun wr hwr => by simp only [execOp, (F1.eval 14 (by omega)).trans (show _ = Value.pointer (some ⟨pb, 0, none⟩) from by simp [upd, ee0, ee1])]; simp [go_sem]) fun F2 => ?_
  refine lyp F2 rfl HCC rfl (by omega) (wanted_none rfl) (v := Value.pointer (some ⟨pb, 4, none⟩)) (fun wr hwr => by simp only [execOp, (F2.eval 15 (by omega)).trans (show _ = Value.pointer (some ⟨pb, 0, none⟩) from by simp [upd, ee0, ee1])]; simp [go_sem]) fun F3 => ?_
  refine lyp F3 rfl HCC rfl (by omega) (wanted_none rfl) (v := Value.pointer (some ⟨kb, 0, none⟩)) (fun wr hwr => by simp only [execOp, (F3.eval 16 (by omega)).trans (show _ = Value.pointer (some ⟨pb, 4, none⟩) from by simp [upd, ee0, ee1])]; simp [go_sem, hwr.2.2.1]) fun F4 => ?_
  refine lyp F4 rfl HCC rfl (by omega) (wanted_none rfl) (v := Value.pointer (some ⟨pb, 0, none⟩)) (fun wr hwr => by simp only [execOp, (F4.eval 0 (by omega)).trans (show _ = Value.pointer (some ⟨pb, 0, none⟩) from by simp [upd, ee0, ee1])]; first | rfl | simp [go_sem]) fun F5 => ?_
  refine lyp F5 rfl HCC rfl (by omega) (wanted_none rfl) (v := Value.pointer (some ⟨pb, 0, none⟩)) (fun wr hwr => by simp only [execOp, (F5.eval 18 (by omega)).trans (show _ = Value.pointer (some ⟨pb, 0, none⟩) from by simp [upd, ee0, ee1])]; simp [go_sem]) fun F6 => ?_
  refine lyp F6 rfl HCC rfl (by omega) (wanted_none rfl) (v := Value.pointer (some ⟨pb, 4, none⟩)) (fun wr hwr => by simp only [execOp, (F6.eval 19 (by omega)).trans (show _ = Value.pointer (some ⟨pb, 0, none⟩) from by simp [upd, ee0, ee1])]; simp [go_sem]) fun F7 => ?_
  refine lyp F7 rfl HCC rfl (by omega) (wanted_none rfl) (v := Value.pointer (some ⟨kb, 0, none⟩)) (fun wr hwr => by simp only [execOp, (F7.eval 20 (by omega)).trans (show _ = Value.pointer (some ⟨pb, 4, none⟩) from by simp [upd, ee0, ee1])]; simp [go_sem, hwr.2.2.1]) fun F8 => ?_
  refine lyp F8 rfl HCC rfl (by omega) (wanted_none rfl) (v := Value.pointer (some ⟨kb, 0, none⟩)) (fun wr hwr => by simp only [execOp, (F8.eval 21 (by omega)).trans (show _ = Value.pointer (some ⟨kb, 0, none⟩) from by simp [upd, ee0, ee1])]; simp [go_sem]) fun F9 => ?_
  refine lyp F9 rfl HCC rfl (by omega) (wanted_none rfl) (v := Value.pointer (some ⟨kb, 1, none⟩)) (fun wr hwr => by simp only [execOp, (F9.eval 22 (by omega)).trans (show _ = Value.pointer (some ⟨kb, 0, none⟩) from by simp [upd, ee0, ee1])]; simp [go_sem]) fun F10 => ?_
  refine lyp F10 rfl HCC rfl (by omega) (wanted_none rfl) (v := Value.slice da ents.length dc) (fun wr hwr => by simp only [execOp, (F10.eval 23 (by omega)).trans (show _ = Value.pointer (some ⟨kb, 1, none⟩) from by simp [upd, ee0, ee1])]; simp [go_sem, hwr.2.2.2]) fun F11 => ?_
  refine lyp F11 rfl HCC rfl (by omega) (wanted_none rfl) (v := Value.pointer (some ⟨pb, 0, none⟩)) (fun wr hwr => by simp only [execOp, (F11.eval 0 (by omega)).trans (show _ = Value.pointer (some ⟨pb, 0, none⟩) from by simp [upd, ee0, ee1])]; first | rfl | simp [go_sem]) fun F12 => ?_
  refine lyp F12 rfl HCC rfl (by omega) (wanted_none rfl) (v := Value.pointer (some ⟨pb, 0, none⟩)) (fun wr hwr => by simp only [execOp, (F12.eval 25 (by omega)).trans (show _ = Value.pointer (some ⟨pb, 0, none⟩) from by simp [upd, ee0, ee1])]; simp [go_sem]) fun F13 => ?_
  refine lyp F13 rfl HCC rfl (by omega) (wanted_none rfl) (v := Value.pointer (some ⟨pb, 0, none⟩)) (fun wr hwr => by simp only [execOp, (F13.eval 26 (by omega)).trans (show _ = Value.pointer (some ⟨pb, 0, none⟩) from by simp [upd, ee0, ee1])]; simp [go_sem]) fun F14 => ?_
  refine lyp F14 rfl HCC rfl (by omega) (wanted_none rfl) (v := Value.pointer (some ⟨hb, 0, none⟩)) (fun wr hwr => by simp only [execOp, (F14.eval 27 (by omega)).trans (show _ = Value.pointer (some ⟨pb, 0, none⟩) from by simp [upd, ee0, ee1])]; simp [go_sem, hwr.1]) fun F15 => ?_
  refine lyp F15 rfl HCC rfl (by omega) (wanted_none rfl) (v := Value.string ⟨nm.toArray⟩) (fun wr hwr => by simp only [execOp, (F15.eval 1 (by omega)).trans (show _ = Value.string ⟨nm.toArray⟩ from by simp [upd, ee0, ee1])]; first | rfl | simp [go_sem]) fun F16 => ?_
  refine lcp F16 rfl HCC rfl (by omega) (wanted_none rfl) (g := 17) (args := #[Value.pointer (some ⟨hb, 0, none⟩), Value.string ⟨nm.toArray⟩]) (by simp only [execOp, resolve, invoke, List.map_toArray, List.map_cons, List.map_nil, (F16.eval 28 (by omega)).trans (show _ = Value.pointer (some ⟨hb, 0, none⟩) from by simp [upd, ee0, ee1]), (F16.eval 29 (by omega)).trans (show _ = Value.string ⟨nm.toArray⟩ from by simp [upd, ee0, ee1])]; simp [go_sem, Act.eval]) (HDG.out (({ w with drawn := w.drawn + 1 } : World)) HSD.vw) ?_
  rintro e9 Y1 ⟨lg, rfl, hlv, hbY1⟩
  refine ⟨_, rfl, fun F17 => ?_⟩
  have HS1 : KS L0 pb hb mb rb kb nd me N dg kn v ds (.slice da ents.length dc) (.slice da ents.length dc) L A ents ((.slice (some ⟨lg, 0, none⟩) N N, N, flatR D) :: (kn, nk, flatR (mkR (-7) nk)) :: R) w Y1 := HSD.fresh hbY1 hlv HL0.out
  have HC1 : (fun wq => wq.cell? ⟨pb, 0, none⟩ = some (.pointer (some ⟨hb, 0, none⟩)) ∧ wq.cell? ⟨pb, 1, none⟩ = some (.pointer (some ⟨rb, 0, none⟩)) ∧ wq.cell? ⟨pb, 4, none⟩ = some (.pointer (some ⟨kb, 0, none⟩)) ∧ wq.cell? ⟨kb, 1, none⟩ = some (.slice da ents.length dc)) Y1 := HCA _ _ HS1
  have HY1 : Hid (w.heap.size ≤ Y1.heap.size) := hbY1.size
  have HLV : Hid (∀ g, (Value.slice (some ⟨lg, 0, none⟩) N N).ownBlock = some g → w.heap.size ≤ g) := fun g hg => (ownsRow_lt hlv hg).1
  refine lyp F17 rfl HC1 rfl (by omega) (wanted_none rfl) (v := Value.pointer (some ⟨pb, 0, none⟩)) (fun wr hwr => by simp only [execOp, (F17.eval 0 (by omega)).trans (show _ = Value.pointer (some ⟨pb, 0, none⟩) from by simp [upd, ee0, ee1])]; first | rfl | simp [go_sem]) fun F18 => ?_
  refine lyp F18 rfl HC1 rfl (by omega) (wanted_none rfl) (v := Value.pointer (some ⟨pb, 0, none⟩)) (fun wr hwr => by simp only [execOp, (F18.eval 31 (by omega)).trans (show _ = Value.pointer (some ⟨pb, 0, none⟩) from by simp [upd, ee0, ee1])]; simp [go_sem]) fun F19 => ?_
  refine lyp F19 rfl HC1 rfl (by omega) (wanted_none rfl) (v := Value.pointer (some ⟨pb, 1, none⟩)) (fun wr hwr => by simp only [execOp, (F19.eval 32 (by omega)).trans (show _ = Value.pointer (some ⟨pb, 0, none⟩) from by simp [upd, ee0, ee1])]; simp [go_sem]) fun F20 => ?_
  refine lyp F20 rfl HC1 rfl (by omega) (wanted_none rfl) (v := Value.pointer (some ⟨rb, 0, none⟩)) (fun wr hwr => by simp only [execOp, (F20.eval 33 (by omega)).trans (show _ = Value.pointer (some ⟨pb, 1, none⟩) from by simp [upd, ee0, ee1])]; simp [go_sem, hwr.2.1]) fun F21 => ?_
  refine lyp F21 rfl HC1 rfl (by omega) (wanted_none rfl) (v := Value.string ⟨nm.toArray⟩) (fun wr hwr => by simp only [execOp, (F21.eval 1 (by omega)).trans (show _ = Value.string ⟨nm.toArray⟩ from by simp [upd, ee0, ee1])]; first | rfl | simp [go_sem]) fun F22 => ?_
  refine lcp F22 rfl HC1 rfl (by omega) (wanted_none rfl) (g := 71) (args := #[Value.pointer (some ⟨rb, 0, none⟩), Value.string ⟨nm.toArray⟩]) (by simp only [execOp, resolve, invoke, List.map_toArray, List.map_cons, List.map_nil, (F22.eval 34 (by omega)).trans (show _ = Value.pointer (some ⟨rb, 0, none⟩) from by simp [upd, ee0, ee1]), (F22.eval 35 (by omega)).trans (show _ = Value.string ⟨nm.toArray⟩ from by simp [upd, ee0, ee1])]; simp [go_sem, Act.eval]) (HRD.out Y1 HS1.rv) ?_
  rintro e9 Y2 ⟨wv, rfl, hwv, hbY2⟩
  obtain ⟨wva, wvc, hwvv, hq2⟩ := own_slice hwv
  subst hwvv
  refine ⟨_, rfl, fun F23 => ?_⟩
  have HS2 : KS L0 pb hb mb rb kb nd me N dg kn v ds (.slice da ents.length dc) (.slice da ents.length dc) L A ents ((.slice wva N wvc, N, flatR D) :: (.slice (some ⟨lg, 0, none⟩) N N, N, flatR D) :: (kn, nk, flatR (mkR (-7) nk)) :: R) w Y2 := HS1.fresh hbY2 hwv (Nat.le_trans HL0.out HY1.out)
  have HC2 : (fun wq => wq.cell? ⟨pb, 0, none⟩ = some (.pointer (some ⟨hb, 0, none⟩)) ∧ wq.cell? ⟨pb, 1, none⟩ = some (.pointer (some ⟨rb, 0, none⟩)) ∧ wq.cell? ⟨pb, 4, none⟩ = some (.pointer (some ⟨kb, 0, none⟩)) ∧ wq.cell? ⟨kb, 1, none⟩ = some (.slice da ents.length dc)) Y2 := HCA _ _ HS2
  have HWV : Hid (∀ g, (Value.slice wva N wvc).ownBlock = some g → w.heap.size ≤ g) := fun g hg => Nat.le_trans HY1.out (ownsRow_lt hwv hg).1
  have HY2 : Hid (w.heap.size ≤ Y2.heap.size) := Nat.le_trans HY1.out hbY2.size
  refine lyp F23 rfl HC2 rfl (by omega) (wanted_none rfl) (v := Value.agg #[.slice (some ⟨lg, 0, none⟩) N N, .slice wva N wvc, .slice none 0 0]) (fun wr hwr => by simp only [execOp, List.map_toArray, List.map_cons, List.map_nil, (F23.eval 30 (by omega)).trans (show _ = Value.slice (some ⟨lg, 0, none⟩) N N from by simp [upd, ee0, ee1]), (F23.eval 36 (by omega)).trans (show _ = Value.slice wva N wvc from by simp [upd, ee0, ee1])]; simp [go_sem]; try rfl) fun F24 => ?_
  have HC3 : (fun wq => wq.cell? ⟨pb, 0, none⟩ = some (.pointer (some ⟨hb, 0, none⟩)) ∧ wq.cell? ⟨pb, 1, none⟩ = some (.pointer (some ⟨rb, 0, none⟩)) ∧ wq.cell? ⟨pb, 4, none⟩ = some (.pointer (some ⟨kb, 0, none⟩)) ∧ wq.cell? ⟨kb, 1, none⟩ = some (.slice da ents.length dc)) (Y2.alloc (.cells #[.slice (some ⟨lg, 0, none⟩) N N, .slice wva N wvc, .slice none 0 0] 109)) := HCA _ _ (HS2.more ((Below.refl _ _).alloc (Nat.le_refl _) _))
  refine lep F24 rfl HC2 rfl (by omega) (wanted_none rfl) (v := Value.slice (some ⟨Y2.heap.size, 0, none⟩) 1 1) (w1 := Y2.alloc (.cells #[.slice (some ⟨lg, 0, none⟩) N N, .slice wva N wvc, .slice none 0 0] 109)) (by simp only [execOp, List.map_toArray, List.map_cons, List.map_nil, (F24.eval 37 (by omega)).trans (show _ = Value.agg #[.slice (some ⟨lg, 0, none⟩) N N, .slice wva N wvc, .slice none 0 0] from by simp [upd, ee0, ee1])]; simp [go_sem]) fun F25 => ?_
  obtain ⟨v5, w5, hrun, ho5, hg5⟩ := app_one 88 109 (.agg #[.slice none 0 0, .slice none 0 0, .slice none 0 0]) 3 72 Try.underlying88 info109 rfl (by decide) (by decide) HS2.ksr #[.slice (some ⟨lg, 0, none⟩) N N, .slice wva N wvc, .slice none 0 0] rfl (fun u hu => by simp at hu; rcases hu with rfl | rfl | rfl <;> rfl) (by have := HMM.out; omega) (Nat.le_trans HL0.out HY2.out)
  obtain ⟨ao5, cap5, hv5, hq5⟩ := own_slice ho5
  subst hv5
  have hnb : ∀ (b : Nat) (E : Array Value) (U : TypeId), Blk Y2 b E U → U ≠ 109 → ¬ (Value.slice da ents.length dc).ownBlock = some b := fun b E U hB hU e => row_ne HS2.ksr hB hU e
  have hB5 := hg5.chg.blk HS2.box (hnb _ _ _ HS2.box (by decide))
  have hK5 := hg5.chg.blk HS2.kbx (hnb _ _ _ HS2.kbx (by decide))
  have HC5 : (fun wq => wq.cell? ⟨pb, 0, none⟩ = some (.pointer (some ⟨hb, 0, none⟩)) ∧ wq.cell? ⟨pb, 1, none⟩ = some (.pointer (some ⟨rb, 0, none⟩)) ∧ wq.cell? ⟨pb, 4, none⟩ = some (.pointer (some ⟨kb, 0, none⟩)) ∧ wq.cell? ⟨kb, 1, none⟩ = some (.slice da ents.length dc)) w5 := ⟨hB5.cell 0, hB5.cell 1, hB5.cell 4, hK5.cell 1⟩
  have hz5 : w5.cell? ⟨kb, 1, none⟩ = some (.slice da ents.length dc) := hK5.cell 1
  have hf5 : w5.frozen? ⟨kb, 1, none⟩ = false := hK5.frozen 1
  refine lep F25 rfl HC3 rfl (by omega) (wanted_none rfl) (v := Value.slice ao5 (ents.length + 1) cap5) (w1 := w5) (by simp only [execOp, resolve, invoke, builtin, List.map_toArray, List.map_cons, List.map_nil, (F25.eval 24 (by omega)).trans (show _ = Value.slice da ents.length dc from by simp [upd, ee0, ee1]), (F25.eval 38 (by omega)).trans (show _ = Value.slice (some ⟨Y2.heap.size, 0, none⟩) 1 1 from by simp [upd, ee0, ee1])]; simp only [Sem.run_bind, Sem.run_pure, Result.andThen_ok, show _ = _ from hrun _]; try rfl) fun F26 => ?_
  refine lyp F26 rfl HC5 rfl (by omega) (wanted_none rfl) (v := Value.pointer (some ⟨kb, 0, none⟩)) (fun wr hwr => by simp only [execOp, (F26.eval 17 (by omega)).trans (show _ = Value.pointer (some ⟨kb, 0, none⟩) from by simp [upd, ee0, ee1])]; simp [go_sem]) fun F27 => ?_
  refine lyp F27 rfl HC5 rfl (by omega) (wanted_none rfl) (v := Value.pointer (some ⟨kb, 1, none⟩)) (fun wr hwr => by simp only [execOp, (F27.eval 40 (by omega)).trans (show _ = Value.pointer (some ⟨kb, 0, none⟩) from by simp [upd, ee0, ee1])]; simp [go_sem]) fun F28 => ?_
  refine lst rfl HC5 rfl (wanted_none rfl) (w1 := w5.setCell ⟨kb, 1, none⟩ (.slice ao5 (ents.length + 1) cap5)) (by simp only [execOp, (F28.eval 41 (by omega)).trans (show _ = Value.pointer (some ⟨kb, 1, none⟩) from by simp [upd, ee0, ee1]), (F28.eval 39 (by omega)).trans (show _ = Value.slice ao5 (ents.length + 1) cap5 from by simp [upd, ee0, ee1])]; simp [go_sem, hf5, hz5]) ?_
  refine ⟨fun h => by omega, ?_⟩
  refine hK _ _ ?_
  clear F0 F1 F2 F3 F4 F5 F6 F7 F8 F9 F10 F11 F12 F13 F14 F15 F16 F17 F18 F19 F20 F21 F22 F23 F24 F25 F26 F27 F28 ee0 ee1 HCC HC1 HC2 HC3 HC5 hz5 hf5 hrun
  simp only [Act.put, List.setIfInBounds_toArray, List.set_cons_succ, List.set_cons_zero]
  obtain ⟨Z1, hZ1⟩ : ∃ Z1, Z1 = w5.setCell ⟨kb, 1, none⟩ (.slice ao5 (ents.length + 1) cap5) := ⟨_, rfl⟩
  have hs3 := HS2.push (.slice (some ⟨lg, 0, none⟩) N N) (.slice wva N wvc) ho5 hg5
  rw [← hZ1] at hs3
  have HS3 : Hid (KS L0 pb hb mb rb kb nd me N dg kn v ds (.slice da ents.length dc) (.slice ao5 (ents.length + 1) cap5) L A (ents ++ [(.slice (some ⟨lg, 0, none⟩) N N, .slice wva N wvc)]) ((.slice wva N wvc, N, flatR D) :: (.slice (some ⟨lg, 0, none⟩) N N, N, flatR D) :: (kn, nk, flatR (mkR (-7) nk)) :: R) w Z1) := hs3
  rw [← hZ1]
  have HLZ : Hid (w.heap.size ≤ Z1.heap.size) := hs3.chg.size
  have p0 : Z1.cell? ⟨pb, 0, none⟩ = some (.pointer (some ⟨hb, 0, none⟩)) := hs3.box.cell 0
  clear hZ1 hs3 HS2 ho5 hg5 hq5 hnb hB5 hK5 HS1 hlv hbY1 hwv hbY2 hq2 HSD HCA HY1 HY2 HS0 HMM
  go_wp2_with fail
  refine Calls.mono (HDG.out Z1 HS3.out.vw) ?_
  rintro e9 w6 ⟨la, rfl, hl1, hb6⟩
  have HS4 : Hid (KS L0 pb hb mb rb kb nd me N dg kn v ds (.slice da ents.length dc) (.slice ao5 (ents.length + 1) cap5) L A (ents ++ [(.slice (some ⟨lg, 0, none⟩) N N, .slice wva N wvc)]) ((.slice (some ⟨la, 0, none⟩) N N, N, flatR D) :: ((.slice wva N wvc, N, flatR D) :: (.slice (some ⟨lg, 0, none⟩) N N, N, flatR D) :: (kn, nk, flatR (mkR (-7) nk)) :: R)) w w6) := HS3.out.fresh hb6 hl1 (Nat.le_trans HL0.out HLZ.out)
  have HLL : Hid (∀ g, (Value.slice (some ⟨la, 0, none⟩) N N).ownBlock = some g → w.heap.size ≤ g) := fun g hg => Nat.le_trans HLZ.out (ownsRow_lt hl1 hg).1
  have HW6 : Hid (w.heap.size ≤ w6.heap.size) := HS4.out.chg.size
  have p1 : w6.cell? ⟨pb, 0, none⟩ = some (.pointer (some ⟨hb, 0, none⟩)) := HS4.out.box.cell 0
  clear hl1 hb6 HS3 p0 HLZ
  go_wp2_with fail
  refine Calls.mono (HDG.out w6 HS4.out.vw) ?_
  rintro e9 w7 ⟨ma, rfl, hm1, hb7⟩
  have HS5 : Hid (KS L0 pb hb mb rb kb nd me N dg kn v ds (.slice da ents.length dc) (.slice ao5 (ents.length + 1) cap5) L A (ents ++ [(.slice (some ⟨lg, 0, none⟩) N N, .slice wva N wvc)]) ((.slice (some ⟨ma, 0, none⟩) N N, N, flatR D) :: (.slice (some ⟨la, 0, none⟩) N N, N, flatR D) :: ((.slice wva N wvc, N, flatR D) :: (.slice (some ⟨lg, 0, none⟩) N N, N, flatR D) :: (kn, nk, flatR (mkR (-7) nk)) :: R)) w w7) := HS4.out.fresh hb7 hm1 (Nat.le_trans HL0.out HW6.out)
  have HML : Hid (∀ g, (Value.slice (some ⟨ma, 0, none⟩) N N).ownBlock = some g → w.heap.size ≤ g) := fun g hg => Nat.le_trans HW6.out (ownsRow_lt hm1 hg).1
  have p2 : w7.cell? ⟨pb, 1, none⟩ = some (.pointer (some ⟨rb, 0, none⟩)) := HS5.out.box.cell 1
  clear hm1 hb7 HS4 p1 HW6
  go_wp2_with fail
  refine Calls.mono (HRD.out w7 HS5.out.rv) ?_
  rintro e9 w8 ⟨t1, rfl, ht1, hb8⟩
  obtain ⟨ta, tc, ht1v, hq3⟩ := own_slice ht1
  subst ht1v
  have HS6 : Hid (KS L0 pb hb mb rb kb nd me N dg kn v ds (.slice da ents.length dc) (.slice ao5 (ents.length + 1) cap5) L A (ents ++ [(.slice (some ⟨lg, 0, none⟩) N N, .slice wva N wvc)]) ((.slice ta N tc, N, flatR D) :: (.slice (some ⟨ma, 0, none⟩) N N, N, flatR D) :: (.slice (some ⟨la, 0, none⟩) N N, N, flatR D) :: ((.slice wva N wvc, N, flatR D) :: (.slice (some ⟨lg, 0, none⟩) N N, N, flatR D) :: (kn, nk, flatR (mkR (-7) nk)) :: R)) w w8) := HS5.out.fresh hb8 ht1 (Nat.le_trans HL0.out HS5.out.chg.size)
  have HMA : Hid _ := HMK.out w8 _ _ _ kn nk L0 HS6.out.box HS6.out.dr (HS6.out.rg.all (kn, nk, flatR (mkR (-7) nk)) (by simp)) hnk
  clear ht1 hb8 hq3 HS5 p2
  go_wp2_with fail
  refine Calls.mono HMA.out ?_
  rintro e9 w9 ⟨rfl, hw9⟩
  replace hw9 := hw9.symm
  subst hw9
  clear HMA
  go_wp2_with fail
  go_loopw [8, 9] (fun s8 s9 wr => ∃ q : Nat, q ≤ N ∧ s8 = .bool true ∧ s9 = .int .i64 q ∧ KS L0 pb hb mb rb kb nd me N dg kn v ds (.slice da ents.length dc) (.slice ao5 (ents.length + 1) cap5) L A (ents ++ [(.slice (some ⟨lg, 0, none⟩) N N, .slice wva N wvc)]) ((.slice ta N tc, N, flatR D) :: (.slice (some ⟨ma, 0, none⟩) N N, N, flatR D) :: (.slice (some ⟨la, 0, none⟩) N N, N, flatR D) :: ((.slice wva N wvc, N, flatR D) :: (.slice (some ⟨lg, 0, none⟩) N N, N, flatR D) :: (kn, nk, flatR (mkR (-7) nk)) :: R)) w wr) (fun _ s9 _ => N - (intOf s9).toNat)
  case atStart => exact ⟨0, Nat.zero_le _, rfl, rfl, HS6.out⟩
  case round =>
    obtain ⟨q, hq, rfl, rfl, hst⟩ := hrel
    clear HS6
    have HST : Hid (KS L0 pb hb mb rb kb nd me N dg kn v ds (.slice da ents.length dc) (.slice ao5 (ents.length + 1) cap5) L A (ents ++ [(.slice (some ⟨lg, 0, none⟩) N N, .slice wva N wvc)]) ((.slice ta N tc, N, flatR D) :: (.slice (some ⟨ma, 0, none⟩) N N, N, flatR D) :: (.slice (some ⟨la, 0, none⟩) N N, N, flatR D) :: ((.slice wva N wvc, N, flatR D) :: (.slice (some ⟨lg, 0, none⟩) N N, N, flatR D) :: (kn, nk, flatR (mkR (-7) nk)) :: R)) w wr) := hst
    by_cases hlt : q < N
    · obtain ⟨tg, htg, s0, s1⟩ := row_two (rs := D) hst.rg.head (q := q) (by rw [HDL.out]; exact hlt)
      subst htg
      obtain ⟨lg2, hlg, r0, r1⟩ := row_two (rs := D) (hst.rg.all (.slice (some ⟨la, 0, none⟩) N N, N, flatR D) (by simp)) (q := q) (by rw [HDL.out]; exact hlt)
      cases hlg
      generalize D[q]'(by rw [HDL.out]; exact hlt) = dq at *
      clear hst
      go_wp2_with fail
      rename_i K hK
      try rw [show ∀ a : Act, a.put none undef = a from fun _ => rfl]
      refine wp_region_mix (fun wq => wq.cell? ⟨la, q * 2, none⟩ = some (.int .i64 dq.1) ∧ wq.cell? ⟨la, q * 2 + 1, none⟩ = some (.int .i64 dq.2) ∧ wq.cell? ⟨tg, q * 2, none⟩ = some (.int .i64 dq.1) ∧ wq.cell? ⟨tg, q * 2 + 1, none⟩ = some (.int .i64 dq.2)) (fun i => i == 8 || i == 99) 99 (by kernel_rfl) rfl (by kernel_rfl) (by kernel_rfl) (by kernel_rfl) ?_
      refine withFrP (N := 156) rfl ?_
      intro f0 F0 hff
      have ee5 : f0 5 = Value.slice (some ⟨la, 0, none⟩) N N := hff 5
      have ee7 : f0 7 = Value.slice (some ⟨tg, 0, none⟩) N tc := hff 7
      have ee9 : f0 9 = Value.int .i64 ((q : Nat) : Int) := hff 9
      clear hff
      have HCC : (fun wq => wq.cell? ⟨la, q * 2, none⟩ = some (.int .i64 dq.1) ∧ wq.cell? ⟨la, q * 2 + 1, none⟩ = some (.int .i64 dq.2) ∧ wq.cell? ⟨tg, q * 2, none⟩ = some (.int .i64 dq.1) ∧ wq.cell? ⟨tg, q * 2 + 1, none⟩ = some (.int .i64 dq.2)) (({ wr with drawn := wr.drawn + 1 } : World)) := ⟨r0, r1, s0, s1⟩
      refine lyp F0 rfl HCC rfl (by omega) (wanted_none rfl) (v := Value.slice (some ⟨la, 0, none⟩) N N) (fun wr hwr => by simp only [execOp, (F0.eval 5 (by omega)).trans (show _ = Value.slice (some ⟨la, 0, none⟩) N N from by simp [upd, ee5, ee7, ee9])]; first | rfl | simp [go_sem]) fun F1 => ?_
      refine lyp F1 rfl HCC rfl (by omega) (wanted_none rfl) (v := Value.int .i64 ((q : Nat) : Int)) (fun wr hwr => by simp only [execOp, (F1.eval 9 (by omega)).trans (show _ = Value.int .i64 ((q : Nat) : Int) from by simp [upd, ee5, ee7, ee9])]; first | rfl | simp [go_sem]) fun F2 => ?_
      refine lyp F2 rfl HCC rfl (by omega) (wanted_none rfl) (v := Value.pointer (some ⟨la, q * 2, none⟩)) (fun wr hwr => by simp only [execOp, (F2.eval 85 (by omega)).trans (show _ = Value.slice (some ⟨la, 0, none⟩) N N from by simp [upd, ee5, ee7, ee9]), (F2.eval 86 (by omega)).trans (show _ = Value.int .i64 ((q : Nat) : Int) from by simp [upd, ee5, ee7, ee9])]; simp only [Sem.run_bind, Sem.run_pure, Result.andThen_ok, idx_run 42 44 2 Try.underlying42 info44s wr la 0 N N q hlt, Nat.zero_add]; try rfl) fun F3 => ?_
      refine lyp F3 rfl HCC rfl (by omega) (wanted_none rfl) (v := Value.agg #[.int .i64 dq.1, .int .i64 dq.2]) (fun wr hwr => by simp only [execOp, (F3.eval 87 (by omega)).trans (show _ = Value.pointer (some ⟨la, q * 2, none⟩) from by simp [upd, ee5, ee7, ee9])]; simp [go_sem, hwr.1, hwr.2.1]) fun F4 => ?_
      refine lyp F4 rfl HCC rfl (by omega) (wanted_none rfl) (v := Value.slice (some ⟨tg, 0, none⟩) N tc) (fun wr hwr => by simp only [execOp, (F4.eval 7 (by omega)).trans (show _ = Value.slice (some ⟨tg, 0, none⟩) N tc from by simp [upd, ee5, ee7, ee9])]; first | rfl | simp [go_sem]) fun F5 => ?_
      refine lyp F5 rfl HCC rfl (by omega) (wanted_none rfl) (v := Value.int .i64 ((q : Nat) : Int)) (fun wr hwr => by simp only [execOp, (F5.eval 9 (by omega)).trans (show _ = Value.int .i64 ((q : Nat) : Int) from by simp [upd, ee5, ee7, ee9])]; first | rfl | simp [go_sem]) fun F6 => ?_
      refine lyp F6 rfl HCC rfl (by omega) (wanted_none rfl) (v := Value.pointer (some ⟨tg, q * 2, none⟩)) (fun wr hwr => by simp only [execOp, (F6.eval 89 (by omega)).trans (show _ = Value.slice (some ⟨tg, 0, none⟩) N tc from by simp [upd, ee5, ee7, ee9]), (F6.eval 90 (by omega)).trans (show _ = Value.int .i64 ((q : Nat) : Int) from by simp [upd, ee5, ee7, ee9])]; simp only [Sem.run_bind, Sem.run_pure, Result.andThen_ok, idx_run 42 44 2 Try.underlying42 info44s wr tg 0 N tc q hlt, Nat.zero_add]; try rfl) fun F7 => ?_
      refine lyp F7 rfl HCC rfl (by omega) (wanted_none rfl) (v := Value.agg #[.int .i64 dq.1, .int .i64 dq.2]) (fun wr hwr => by simp only [execOp, (F7.eval 91 (by omega)).trans (show _ = Value.pointer (some ⟨tg, q * 2, none⟩) from by simp [upd, ee5, ee7, ee9])]; simp [go_sem, hwr.2.2.1, hwr.2.2.2]) fun F8 => ?_
      refine lcp F8 rfl HCC rfl (by omega) (wanted_none rfl) (g := 18) (args := #[Value.agg #[.int .i64 dq.1, .int .i64 dq.2], Value.agg #[.int .i64 dq.1, .int .i64 dq.2]]) (by simp only [execOp, resolve, invoke, List.map_toArray, List.map_cons, List.map_nil, (F8.eval 88 (by omega)).trans (show _ = Value.agg #[.int .i64 dq.1, .int .i64 dq.2] from by simp [upd, ee5, ee7, ee9]), (F8.eval 92 (by omega)).trans (show _ = Value.agg #[.int .i64 dq.1, .int .i64 dq.2] from by simp [upd, ee5, ee7, ee9])]; simp [go_sem, Act.eval]) (HSR.out dq.1 dq.2 (({ wr with drawn := wr.drawn + 1 } : World))) ?_
      rintro e9 Y ⟨rfl, hbY⟩
      refine ⟨_, rfl, fun F9 => ?_⟩
      have HC2 : (fun wq => wq.cell? ⟨la, q * 2, none⟩ = some (.int .i64 dq.1) ∧ wq.cell? ⟨la, q * 2 + 1, none⟩ = some (.int .i64 dq.2) ∧ wq.cell? ⟨tg, q * 2, none⟩ = some (.int .i64 dq.1) ∧ wq.cell? ⟨tg, q * 2 + 1, none⟩ = some (.int .i64 dq.2)) Y := ⟨cell_below hbY HCC.1, cell_below hbY HCC.2.1, cell_below hbY HCC.2.2.1, cell_below hbY HCC.2.2.2⟩
      refine lyp F9 rfl HC2 rfl (by omega) (wanted_none rfl) (v := Value.bool true) (fun wr hwr => by simp only [execOp, (F9.eval 93 (by omega)).trans (show _ = Value.bool true from by simp [upd, ee5, ee7, ee9])]; first | rfl | simp [go_sem]) fun F10 => ?_
      refine ⟨fun _ => HC2, ?_⟩
      refine hK _ _ ?_
      clear F0 F1 F2 F3 F4 F5 F6 F7 F8 F9 F10 ee5 ee7 ee9 HCC HC2
      simp only [Act.put, List.setIfInBounds_toArray, List.set_cons_succ, List.set_cons_zero]
      have HS9 : Hid (KS L0 pb hb mb rb kb nd me N dg kn v ds (.slice da ents.length dc) (.slice ao5 (ents.length + 1) cap5) L A (ents ++ [(.slice (some ⟨lg, 0, none⟩) N N, .slice wva N wvc)]) ((.slice (some ⟨tg, 0, none⟩) N tc, N, flatR D) :: (.slice (some ⟨ma, 0, none⟩) N N, N, flatR D) :: (.slice (some ⟨la, 0, none⟩) N N, N, flatR D) :: ((.slice wva N wvc, N, flatR D) :: (.slice (some ⟨lg, 0, none⟩) N N, N, flatR D) :: (kn, nk, flatR (mkR (-7) nk)) :: R)) w Y) := (HST.out.more ((Below.drew (Below.refl _ _)).trans hbY))
      clear hbY HST r0 r1 s0 s1
      go_wp2_with fail
      go_roundw
      case rel => exact ⟨q + 1, by omega, rfl, by go_num, HS9.out⟩
      case measure => simp [intOf]; omega
    · have HS8 : Hid (KS L0 pb hb mb rb kb nd me N dg kn v ds (.slice da ents.length dc) (.slice ao5 (ents.length + 1) cap5) L A (ents ++ [(.slice (some ⟨lg, 0, none⟩) N N, .slice wva N wvc)]) ((.slice (some ⟨la, 0, none⟩) N N, N, flatR D) :: (.slice ta N tc, N, flatR D) :: (.slice (some ⟨ma, 0, none⟩) N N, N, flatR D) :: ((.slice wva N wvc, N, flatR D) :: (.slice (some ⟨lg, 0, none⟩) N N, N, flatR D) :: (kn, nk, flatR (mkR (-7) nk)) :: R)) w wr) := hst.perm (((List.Perm.swap _ _ _).cons _).trans (List.Perm.swap _ _ _))
      clear hst HST
      go_wp2_with fail
      go_loopw [10] (fun s10 wr => ∃ q : Nat, q ≤ N ∧ s10 = .int .i64 q ∧ KS L0 pb hb mb rb kb nd me N dg kn v ds (.slice da ents.length dc) (.slice ao5 (ents.length + 1) cap5) L A (ents ++ [(.slice (some ⟨lg, 0, none⟩) N N, .slice wva N wvc)]) ((.slice (some ⟨la, 0, none⟩) N N, N, flatR (mkR (-7) q ++ D.drop q)) :: (.slice ta N tc, N, flatR D) :: (.slice (some ⟨ma, 0, none⟩) N N, N, flatR D) :: ((.slice wva N wvc, N, flatR D) :: (.slice (some ⟨lg, 0, none⟩) N N, N, flatR D) :: (kn, nk, flatR (mkR (-7) nk)) :: R)) w wr) (fun s10 _ => N - (intOf s10).toNat)
      case atStart => exact ⟨0, Nat.zero_le _, rfl, by simpa [mkR] using HS8.out⟩
      case round =>
        obtain ⟨q, hq, rfl, hst⟩ := hrel
        clear HS8
        by_cases hlt : q < N
        · skip
          have hx : World.ownsRow wr L0 44 2 (.slice (some ⟨la, 0, none⟩) N N) N (flatR (mkR (-7) q ++ D.drop q)) := hst.rg.head
          have hdl : (mkR (-7) q ++ D.drop q).length = N := by rw [List.length_append, mkR_len, List.length_drop, HDL.out]; omega
          have hcell : ∀ t, t < 2 → ∃ u, wr.cell? ⟨la, q * 2 + t, none⟩ = some u := fun t ht => by
            have e0 := World.ownsRow.cellAt hx (q * 2 + t) (by omega)
            exact ⟨_, e0.trans (List.getElem?_eq_getElem (by rw [flatR_length, hdl]; omega))⟩
          obtain ⟨u0, c0⟩ := hcell 0 (by decide)
          rw [Nat.add_zero] at c0
          obtain ⟨u1, c1'⟩ := hcell 1 (by decide)
          have f0 := World.ownsRow.frozenAt hx (q * 2)
          have f1 := World.ownsRow.frozenAt hx (q * 2 + 1)
          obtain ⟨o0, g0⟩ := World.ownsRow.stored hx (q * 2) (.int .i64 (-1 - (q : Int)))
          obtain ⟨o1, g1⟩ := World.ownsRow.stored o0 (q * 2 + 1) (.int .i64 (-7))
          rw [flatR_set (by rw [hdl]; exact hlt), mkR_set (by rw [HDL.out]; exact hlt)] at o1
          have hc2 := (setCell_chg wr la (q * 2) (.int .i64 (-1 - (q : Int)))).trans (setCell_chg _ la (q * 2 + 1) (.int .i64 (-7))) (fun _ _ e => e)
          have HS6 : Hid _ := hst.set (hc2.mono (fun j _ e => by rw [e]; rfl)) o1 HLL.out
          have hw : IntKind.i64.wrap (-1 - (q : Int)) = -1 - (q : Int) := by rw [IntKind.wrap_i64]; omega
          clear hcell hdl o0 o1 g0 g1 hc2 hx
          clear hst
          go_wp2_with fail
          go_roundw
          case rel => exact ⟨q + 1, by omega, by go_num, HS6.out⟩
          case measure => simp [intOf]; omega
        · obtain rfl : N = q := by omega
          rw [List.drop_of_length_le (by rw [HDL.out]; exact Nat.le_refl _), List.append_nil] at hst
          have HS10 : Hid (KS L0 pb hb mb rb kb nd me N dg kn v ds (.slice da ents.length dc) (.slice ao5 (ents.length + 1) cap5) L A (ents ++ [(.slice (some ⟨lg, 0, none⟩) N N, .slice wva N wvc)]) ((.slice (some ⟨ma, 0, none⟩) N N, N, flatR D) :: (.slice ta N tc, N, flatR D) :: (.slice (some ⟨la, 0, none⟩) N N, N, flatR (mkR (-7) N)) :: ((.slice wva N wvc, N, flatR D) :: (.slice (some ⟨lg, 0, none⟩) N N, N, flatR D) :: (kn, nk, flatR (mkR (-7) nk)) :: R)) w wr) := hst.perm ((List.Perm.swap _ _ _).trans (((List.Perm.swap _ _ _).cons _).trans (List.Perm.swap _ _ _)))
          clear hst
          go_wp2_with fail
          go_loopw [8, 11] (fun s8 s11 wr => ∃ q : Nat, q ≤ N ∧ s8 = .bool true ∧ s11 = .int .i64 q ∧ KS L0 pb hb mb rb kb nd me N dg kn v ds (.slice da ents.length dc) (.slice ao5 (ents.length + 1) cap5) L A (ents ++ [(.slice (some ⟨lg, 0, none⟩) N N, .slice wva N wvc)]) ((.slice (some ⟨ma, 0, none⟩) N N, N, flatR (mkR (-8) q ++ D.drop q)) :: (.slice ta N tc, N, flatR D) :: (.slice (some ⟨la, 0, none⟩) N N, N, flatR (mkR (-7) N)) :: ((.slice wva N wvc, N, flatR D) :: (.slice (some ⟨lg, 0, none⟩) N N, N, flatR D) :: (kn, nk, flatR (mkR (-7) nk)) :: R)) w wr) (fun _ s11 _ => N - (intOf s11).toNat)
          case atStart => exact ⟨0, Nat.zero_le _, rfl, rfl, by simpa [mkR] using HS10.out⟩
          case round =>
            obtain ⟨q, hq, rfl, rfl, hst⟩ := hrel
            clear HS10
            have HST : Hid (KS L0 pb hb mb rb kb nd me N dg kn v ds (.slice da ents.length dc) (.slice ao5 (ents.length + 1) cap5) L A (ents ++ [(.slice (some ⟨lg, 0, none⟩) N N, .slice wva N wvc)]) ((.slice (some ⟨ma, 0, none⟩) N N, N, flatR (mkR (-8) q ++ D.drop q)) :: (.slice ta N tc, N, flatR D) :: (.slice (some ⟨la, 0, none⟩) N N, N, flatR (mkR (-7) N)) :: ((.slice wva N wvc, N, flatR D) :: (.slice (some ⟨lg, 0, none⟩) N N, N, flatR D) :: (kn, nk, flatR (mkR (-7) nk)) :: R)) w wr) := hst
            by_cases hlt : q < N
            · have hlD : q < (mkR (-8) q ++ D.drop q).length := by rw [List.length_append, mkR_len, List.length_drop, HDL.out]; omega
              obtain ⟨mg2, hmg, r0, r1⟩ := row_two (rs := mkR (-8) q ++ D.drop q) hst.rg.head (q := q) hlD
              cases hmg
              have hdq : (mkR (-8) q ++ D.drop q)[q] = D[q]'(by rw [HDL.out]; exact hlt) := by
                rw [List.getElem_append_right (by rw [mkR_len]; exact Nat.le_refl _)]
                simp [mkR_len]
              rw [hdq] at r0 r1
              obtain ⟨tg, htg, s0, s1⟩ := row_two (rs := D) (hst.rg.all (.slice ta N tc, N, flatR D) (by simp)) (q := q) (by rw [HDL.out]; exact hlt)
              subst htg
              generalize D[q]'(by rw [HDL.out]; exact hlt) = dq at *
              clear hst hdq hlD
              go_wp2_with fail
              rename_i K hK
              try rw [show ∀ a : Act, a.put none undef = a from fun _ => rfl]
              refine wp_region_mix (fun wq => wq.cell? ⟨ma, q * 2, none⟩ = some (.int .i64 dq.1) ∧ wq.cell? ⟨ma, q * 2 + 1, none⟩ = some (.int .i64 dq.2) ∧ wq.cell? ⟨tg, q * 2, none⟩ = some (.int .i64 dq.1) ∧ wq.cell? ⟨tg, q * 2 + 1, none⟩ = some (.int .i64 dq.2)) (fun i => i == 8 || i == 99) 99 (by kernel_rfl) rfl (by kernel_rfl) (by kernel_rfl) (by kernel_rfl) ?_
              refine withFrP (N := 156) rfl ?_
              intro f0 F0 hff
              have ee6 : f0 6 = Value.slice (some ⟨ma, 0, none⟩) N N := hff 6
              have ee7 : f0 7 = Value.slice (some ⟨tg, 0, none⟩) N tc := hff 7
              have ee11 : f0 11 = Value.int .i64 ((q : Nat) : Int) := hff 11
              clear hff
              have HCC : (fun wq => wq.cell? ⟨ma, q * 2, none⟩ = some (.int .i64 dq.1) ∧ wq.cell? ⟨ma, q * 2 + 1, none⟩ = some (.int .i64 dq.2) ∧ wq.cell? ⟨tg, q * 2, none⟩ = some (.int .i64 dq.1) ∧ wq.cell? ⟨tg, q * 2 + 1, none⟩ = some (.int .i64 dq.2)) (({ wr with drawn := wr.drawn + 1 } : World)) := ⟨r0, r1, s0, s1⟩
              refine lyp F0 rfl HCC rfl (by omega) (wanted_none rfl) (v := Value.slice (some ⟨ma, 0, none⟩) N N) (fun wr hwr => by simp only [execOp, (F0.eval 6 (by omega)).trans (show _ = Value.slice (some ⟨ma, 0, none⟩) N N from by simp [upd, ee6, ee7, ee11])]; first | rfl | simp [go_sem]) fun F1 => ?_
              refine lyp F1 rfl HCC rfl (by omega) (wanted_none rfl) (v := Value.int .i64 ((q : Nat) : Int)) (fun wr hwr => by simp only [execOp, (F1.eval 11 (by omega)).trans (show _ = Value.int .i64 ((q : Nat) : Int) from by simp [upd, ee6, ee7, ee11])]; first | rfl | simp [go_sem]) fun F2 => ?_
              refine lyp F2 rfl HCC rfl (by omega) (wanted_none rfl) (v := Value.pointer (some ⟨ma, q * 2, none⟩)) (fun wr hwr => by simp only [execOp, (F2.eval 115 (by omega)).trans (show _ = Value.slice (some ⟨ma, 0, none⟩) N N from by simp [upd, ee6, ee7, ee11]), (F2.eval 116 (by omega)).trans (show _ = Value.int .i64 ((q : Nat) : Int) from by simp [upd, ee6, ee7, ee11])]; simp only [Sem.run_bind, Sem.run_pure, Result.andThen_ok, idx_run 42 44 2 Try.underlying42 info44s wr ma 0 N N q hlt, Nat.zero_add]; try rfl) fun F3 => ?_
              refine lyp F3 rfl HCC rfl (by omega) (wanted_none rfl) (v := Value.agg #[.int .i64 dq.1, .int .i64 dq.2]) (fun wr hwr => by simp only [execOp, (F3.eval 117 (by omega)).trans (show _ = Value.pointer (some ⟨ma, q * 2, none⟩) from by simp [upd, ee6, ee7, ee11])]; simp [go_sem, hwr.1, hwr.2.1]) fun F4 => ?_
              refine lyp F4 rfl HCC rfl (by omega) (wanted_none rfl) (v := Value.slice (some ⟨tg, 0, none⟩) N tc) (fun wr hwr => by simp only [execOp, (F4.eval 7 (by omega)).trans (show _ = Value.slice (some ⟨tg, 0, none⟩) N tc from by simp [upd, ee6, ee7, ee11])]; first | rfl | simp [go_sem]) fun F5 => ?_
              refine lyp F5 rfl HCC rfl (by omega) (wanted_none rfl) (v := Value.int .i64 ((q : Nat) : Int)) (fun wr hwr => by simp only [execOp, (F5.eval 11 (by omega)).trans (show _ = Value.int .i64 ((q : Nat) : Int) from by simp [upd, ee6, ee7, ee11])]; first | rfl | simp [go_sem]) fun F6 => ?_
              refine lyp F6 rfl HCC rfl (by omega) (wanted_none rfl) (v := Value.pointer (some ⟨tg, q * 2, none⟩)) (fun wr hwr => by simp only [execOp, (F6.eval 119 (by omega)).trans (show _ = Value.slice (some ⟨tg, 0, none⟩) N tc from by simp [upd, ee6, ee7, ee11]), (F6.eval 120 (by omega)).trans (show _ = Value.int .i64 ((q : Nat) : Int) from by simp [upd, ee6, ee7, ee11])]; simp only [Sem.run_bind, Sem.run_pure, Result.andThen_ok, idx_run 42 44 2 Try.underlying42 info44s wr tg 0 N tc q hlt, Nat.zero_add]; try rfl) fun F7 => ?_
              refine lyp F7 rfl HCC rfl (by omega) (wanted_none rfl) (v := Value.agg #[.int .i64 dq.1, .int .i64 dq.2]) (fun wr hwr => by simp only [execOp, (F7.eval 121 (by omega)).trans (show _ = Value.pointer (some ⟨tg, q * 2, none⟩) from by simp [upd, ee6, ee7, ee11])]; simp [go_sem, hwr.2.2.1, hwr.2.2.2]) fun F8 => ?_
              refine lcp F8 rfl HCC rfl (by omega) (wanted_none rfl) (g := 18) (args := #[Value.agg #[.int .i64 dq.1, .int .i64 dq.2], Value.agg #[.int .i64 dq.1, .int .i64 dq.2]]) (by simp only [execOp, resolve, invoke, List.map_toArray, List.map_cons, List.map_nil, (F8.eval 118 (by omega)).trans (show _ = Value.agg #[.int .i64 dq.1, .int .i64 dq.2] from by simp [upd, ee6, ee7, ee11]), (F8.eval 122 (by omega)).trans (show _ = Value.agg #[.int .i64 dq.1, .int .i64 dq.2] from by simp [upd, ee6, ee7, ee11])]; simp [go_sem, Act.eval]) (HSR.out dq.1 dq.2 (({ wr with drawn := wr.drawn + 1 } : World))) ?_
              rintro e9 Y ⟨rfl, hbY⟩
              refine ⟨_, rfl, fun F9 => ?_⟩
              have HC2 : (fun wq => wq.cell? ⟨ma, q * 2, none⟩ = some (.int .i64 dq.1) ∧ wq.cell? ⟨ma, q * 2 + 1, none⟩ = some (.int .i64 dq.2) ∧ wq.cell? ⟨tg, q * 2, none⟩ = some (.int .i64 dq.1) ∧ wq.cell? ⟨tg, q * 2 + 1, none⟩ = some (.int .i64 dq.2)) Y := ⟨cell_below hbY HCC.1, cell_below hbY HCC.2.1, cell_below hbY HCC.2.2.1, cell_below hbY HCC.2.2.2⟩
              refine lyp F9 rfl HC2 rfl (by omega) (wanted_none rfl) (v := Value.bool true) (fun wr hwr => by simp only [execOp, (F9.eval 123 (by omega)).trans (show _ = Value.bool true from by simp [upd, ee6, ee7, ee11])]; first | rfl | simp [go_sem]) fun F10 => ?_
              refine ⟨fun _ => HC2, ?_⟩
              refine hK _ _ ?_
              clear F0 F1 F2 F3 F4 F5 F6 F7 F8 F9 F10 ee6 ee7 ee11 HCC HC2
              simp only [Act.put, List.setIfInBounds_toArray, List.set_cons_succ, List.set_cons_zero]
              have HS9 : Hid (KS L0 pb hb mb rb kb nd me N dg kn v ds (.slice da ents.length dc) (.slice ao5 (ents.length + 1) cap5) L A (ents ++ [(.slice (some ⟨lg, 0, none⟩) N N, .slice wva N wvc)]) ((.slice (some ⟨ma, 0, none⟩) N N, N, flatR (mkR (-8) q ++ D.drop q)) :: (.slice (some ⟨tg, 0, none⟩) N tc, N, flatR D) :: (.slice (some ⟨la, 0, none⟩) N N, N, flatR (mkR (-7) N)) :: ((.slice wva N wvc, N, flatR D) :: (.slice (some ⟨lg, 0, none⟩) N N, N, flatR D) :: (kn, nk, flatR (mkR (-7) nk)) :: R)) w Y) := (HST.out.more ((Below.drew (Below.refl _ _)).trans hbY))
              clear hbY HST r0 r1 s0 s1
              have hst9 := HS9.out
              have hx : World.ownsRow Y L0 44 2 (.slice (some ⟨ma, 0, none⟩) N N) N (flatR (mkR (-8) q ++ D.drop q)) := hst9.rg.head
              have hdl : (mkR (-8) q ++ D.drop q).length = N := by rw [List.length_append, mkR_len, List.length_drop, HDL.out]; omega
              have hcell : ∀ t, t < 2 → ∃ u, Y.cell? ⟨ma, q * 2 + t, none⟩ = some u := fun t ht => by
                have e0 := World.ownsRow.cellAt hx (q * 2 + t) (by omega)
                exact ⟨_, e0.trans (List.getElem?_eq_getElem (by rw [flatR_length, hdl]; omega))⟩
              obtain ⟨u0, c0⟩ := hcell 0 (by decide)
              rw [Nat.add_zero] at c0
              obtain ⟨u1, c1'⟩ := hcell 1 (by decide)
              have f0 := World.ownsRow.frozenAt hx (q * 2)
              have f1 := World.ownsRow.frozenAt hx (q * 2 + 1)
              obtain ⟨o0, g0⟩ := World.ownsRow.stored hx (q * 2) (.int .i64 (-1 - (q : Int)))
              obtain ⟨o1, g1⟩ := World.ownsRow.stored o0 (q * 2 + 1) (.int .i64 (-8))
              rw [flatR_set (by rw [hdl]; exact hlt), mkR_set (by rw [HDL.out]; exact hlt)] at o1
              have hc2 := (setCell_chg Y ma (q * 2) (.int .i64 (-1 - (q : Int)))).trans (setCell_chg _ ma (q * 2 + 1) (.int .i64 (-8))) (fun _ _ e => e)
              have HS6 : Hid _ := hst9.set (hc2.mono (fun j _ e => by rw [e]; rfl)) o1 HML.out
              have hw : IntKind.i64.wrap (-1 - (q : Int)) = -1 - (q : Int) := by rw [IntKind.wrap_i64]; omega
              clear hcell hdl o0 o1 g0 g1 hc2 hx
              clear hst9 HS9
              go_wp2_with fail
              go_roundw
              case rel => exact ⟨q + 1, by omega, rfl, by go_num, HS6.out⟩
              case measure => simp [intOf]; omega
            · obtain rfl : N = q := by omega
              rw [List.drop_of_length_le (by rw [HDL.out]; exact Nat.le_refl _), List.append_nil] at hst
              have HS12 : Hid (KS L0 pb hb mb rb kb nd me N dg kn v ds (.slice da ents.length dc) (.slice ao5 (ents.length + 1) cap5) L A (ents ++ [(.slice (some ⟨lg, 0, none⟩) N N, .slice wva N wvc)]) ((.slice (some ⟨la, 0, none⟩) N N, N, flatR (mkR (-7) N)) :: (.slice ta N tc, N, flatR D) :: (.slice (some ⟨ma, 0, none⟩) N N, N, flatR (mkR (-8) N)) :: ((.slice wva N wvc, N, flatR D) :: (.slice (some ⟨lg, 0, none⟩) N N, N, flatR D) :: (kn, nk, flatR (mkR (-7) nk)) :: R)) w wr) := hst.perm ((List.Perm.swap _ _ _).trans (((List.Perm.swap _ _ _).cons _).trans (List.Perm.swap _ _ _)))
              clear hst HST
              go_wp2_with fail
              go_loopw [12, 13] (fun s8 s9 wr => ∃ (q : Nat) (x : Value), x = s8 ∧ q ≤ 80 ∧ s9 = .int .i64 q ∧ KS L0 pb hb mb rb kb nd me N dg kn v ds (.slice da ents.length dc) (.slice ao5 (ents.length + 1) cap5) L A (ents ++ [(.slice (some ⟨lg, 0, none⟩) N N, .slice wva N wvc)]) ((.slice (some ⟨la, 0, none⟩) N N, N, flatR (mkR (-7) N)) :: (.slice ta N tc, N, flatR D) :: (.slice (some ⟨ma, 0, none⟩) N N, N, flatR (mkR (-8) N)) :: ((.slice wva N wvc, N, flatR D) :: (.slice (some ⟨lg, 0, none⟩) N N, N, flatR D) :: (kn, nk, flatR (mkR (-7) nk)) :: R)) w wr ∧ GR L0 44 2 (.slice (some ⟨la, 0, none⟩) N N) N (flatR (mkR (-7) N)) ((.slice ta N tc, N, flatR D) :: (.slice (some ⟨ma, 0, none⟩) N N, N, flatR (mkR (-8) N)) :: ((.slice wva N wvc, N, flatR D) :: (.slice (some ⟨lg, 0, none⟩) N N, N, flatR D) :: (kn, nk, flatR (mkR (-7) nk)) :: R)) x (N + q) (flatR (mkR (-7) N ++ List.replicate q (99, 0))) wr ∧ (∀ g, x.ownBlock = some g → w.heap.size ≤ g)) (fun _ s9 _ => 80 - (intOf s9).toNat)
              case atStart => exact ⟨0, _, rfl, by omega, rfl, HS12.out, by simpa using GR.start HS12.out.rg, HLL.out⟩
              case round =>
                obtain ⟨q, x, rfl, hq, rfl, hst, hgr, hxl⟩ := hrel
                clear HS12
                obtain ⟨xa, xc, hxv, hq3⟩ := own_slice hgr.row
                subst hxv
                by_cases hlt : q < 80
                · obtain ⟨x', w', hrun, hgr2, hcx, hax⟩ := hgr.app 42 (.agg #[.int .i64 0, .int .i64 0]) 16 Try.underlying42 info44 rfl (by decide) (by decide) #[.int .i64 99, .int .i64 0] rfl (fun u hu => by simp at hu; rcases hu with rfl | rfl <;> rfl) (by omega) (Nat.le_trans HL0.out hst.chg.size)
                  have hst2 := hst.keep hcx (fun k cu T hB hT e => row_ne hgr.row hB hT e) (fun e => by obtain ⟨cu, hcu⟩ := ownsRow_type hgr.row e; exact hst.vw.map.ne_b (show Blk wr mb cu 44 from hcu) rfl) hxl hgr2.rg
                  have HST2 : Hid _ := hst2
                  have HG2 : Hid (GR L0 44 2 (.slice (some ⟨la, 0, none⟩) N N) N (flatR (mkR (-7) N)) ((.slice ta N tc, N, flatR D) :: (.slice (some ⟨ma, 0, none⟩) N N, N, flatR (mkR (-8) N)) :: ((.slice wva N wvc, N, flatR D) :: (.slice (some ⟨lg, 0, none⟩) N N, N, flatR D) :: (kn, nk, flatR (mkR (-7) nk)) :: R)) x' (N + (q + 1)) (flatR (mkR (-7) N ++ List.replicate (q + 1) (99, 0))) w') := show GR L0 44 2 (.slice (some ⟨la, 0, none⟩) N N) N (flatR (mkR (-7) N)) ((.slice ta N tc, N, flatR D) :: (.slice (some ⟨ma, 0, none⟩) N N, N, flatR (mkR (-8) N)) :: ((.slice wva N wvc, N, flatR D) :: (.slice (some ⟨lg, 0, none⟩) N N, N, flatR D) :: (kn, nk, flatR (mkR (-7) nk)) :: R)) x' (N + (q + 1)) (flatR (mkR (-7) N ++ List.replicate (q + 1) (99, 0))) w' from by
                    rw [List.replicate_succ', ← List.append_assoc, show ∀ a b, flatR (a ++ [b]) = flatR a ++ flatR [b] from fun a b => by simp [flatR]]
                    exact hgr2
                  have HXL : Hid (∀ g, x'.ownBlock = some g → w.heap.size ≤ g) := fun g hg => (hax g hg).elim (hxl g) (fun h => Nat.le_trans hst.chg.size h)
                  have HRU : Hid _ := hrun
                  clear hrun hgr2 hcx hax hst2 hst hgr hxl hq3
                  go_wp2_with (at_builtin; refine wpList_runs rfl _ _ 42 rfl rfl rfl HRU.out ?_)
                  go_roundw
                  case rel => exact ⟨q + 1, _, rfl, by omega, by go_num, HST2.out, HG2.out, HXL.out⟩
                  case measure => simp [intOf]; omega
                · obtain rfl : q = 80 := by omega
                  have fz : wr.frozen? ⟨pb, 3, none⟩ = false := hst.box.frozen 3
                  have p4 : wr.cell? ⟨pb, 3, none⟩ = some kn := hst.box.cell 3
                  obtain ⟨Z9, hZ9⟩ : ∃ Z9, Z9 = wr.setCell ⟨pb, 3, none⟩ (.slice (some ⟨la, 0, none⟩) N N) := ⟨_, rfl⟩
                  have hs13 := hst.setKn (.slice (some ⟨la, 0, none⟩) N N)
                  rw [← hZ9] at hs13
                  have HMB : Hid _ := HMK.out Z9 _ _ _ (.slice (some ⟨la, 0, none⟩) N N) N L0 hs13.box hs13.dr hs13.rg.head (by omega)
                  have HFI : Hid (KS L0 pb hb mb rb kb nd me N dg (.slice (some ⟨la, 0, none⟩) N N) v ds (.slice da ents.length dc) (.slice ao5 (ents.length + 1) cap5) L A (ents ++ [(.slice (some ⟨lg, 0, none⟩) N N, .slice wva N wvc)]) ((.slice (some ⟨la, 0, none⟩) N N, N, flatR (mkR (-7) N)) :: (.slice wva N wvc, N, flatR D) :: (.slice (some ⟨lg, 0, none⟩) N N, N, flatR D) :: R) w Z9) := hs13.rows (hs13.rg.sub (List.Sublist.cons_cons _ (List.Sublist.cons _ (List.Sublist.cons _ (List.Sublist.cons_cons _ (List.Sublist.cons_cons _ (List.Sublist.cons _ (List.Sublist.refl _))))))))
                  have hw8 : IntKind.i64.wrap ((N : Int) + 80) = (N : Int) + 80 := by rw [IntKind.wrap_i64]; omega
                  clear hs13 hst hgr hxl hq3
                  go_upto_region 25 with fail
                  rw [← hZ9]
                  clear hZ9 fz p4
                  go_wp2_with fail
                  refine Calls.mono HMB.out ?_
                  rintro e9 w14 ⟨rfl, hw14⟩
                  replace hw14 := hw14.symm
                  subst hw14
                  go_wp2_with fail
                  go_ret
                  exact ⟨rfl, D, _, _, _, _, HDE.out, HFI.out, HLL.out, HWV.out, HLV.out⟩

end Go.Proofs.Ytifgmefdlmjocaa
