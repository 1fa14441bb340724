import Derived.Test.YtifgmefdlmjocaaJoinE
import Derived.Deep.Cut
namespace Go.Proofs.Ytifgmefdlmjocaa
open Go.RowKit Go.PlainAid Go.MapKept
set_option linter.unusedVariables false
set_option linter.unusedSimpArgs false
def flatD (l : List (Value × Value)) : List Value := l.flatMap fun p => [p.1, p.2, .slice none 0 0]
theorem flatD_app (l : List (Value × Value)) (p : Value × Value) : flatD (l ++ [p]) = flatD l ++ [p.1, p.2, .slice none 0 0] := by simp [flatD]
theorem info106 : (Try.prog.info? 106).map (fun i => (i.zero, i.size, i.bytes)) = some (some (.agg #[.slice none 0 0, .slice none 0 0, .slice none 0 0]), 3, 72) := by kernel_rfl
/-- A pair and the book within a call of digests that began at w. -/
structure DS (L0 pb hb mb rb kb nk : Nat) (me N : Int) (dg kn v ks d0 ds : Value) (L A : List Ent) (ents : List (Value × Value)) (rs : List RW) (w wr : World) : Prop where
  box : Blk wr pb #[.pointer (some ⟨hb, 0, none⟩), .pointer (some ⟨rb, 0, none⟩), dg, kn, .pointer (some ⟨kb, 0, none⟩)] 68
  vw : Vw hb mb me N L wr
  rv : RVw L0 rb me N v A wr
  kbx : Blk wr kb #[ds, ks] 90
  dsr : wr.ownsRow L0 106 3 ds ents.length (flatD ents)
  rg : RG L0 46 7 rs wr
  kr : wr.ownsRow L0 44 2 kn nk (flatR (mkR (-7) nk))
  chg : Chg (fun k => k = pb ∨ k = kb ∨ d0.ownBlock = some k) w wr
  at' : ∀ g, ds.ownBlock = some g → d0.ownBlock = some g ∨ w.heap.size ≤ g
theorem row_ne {w : World} {base e s n b : Nat} {v : Value} {xs : List Value} {D : Array Value} {U : TypeId} (h : w.ownsRow base e s v n xs) (hB : Blk w b D U) (hU : U ≠ e) : v.ownBlock ≠ some b := fun hh => by
  obtain ⟨cu, hcu⟩ := ownsRow_type h hh
  exact hB.ne_t (show Blk w b cu e from hcu) hU rfl
section
variable {L0 pb hb mb rb kb nk : Nat} {me N : Int} {dg kn v ks d0 ds : Value} {L A : List Ent} {ents : List (Value × Value)} {rs : List RW} {w wr w2 : World}
theorem DS.keep {rs2 : List RW} (h : DS L0 pb hb mb rb kb nk me N dg kn v ks d0 ds L A ents rs w wr) {B : Nat → Prop} (hc : Chg B wr w2) (hB : ∀ k cu T, Blk wr k cu T → T ≠ 46 → ¬ B k) (hm : ¬ B mb) (hlo : ∀ k, B k → w.heap.size ≤ k) (hrg : RG L0 46 7 rs2 w2) : DS L0 pb hb mb rb kb nk me N dg kn v ks d0 ds L A ents rs2 w w2 := by
  have hr : ∀ {base e s n : Nat} {u : Value} {xs : List Value}, e ≠ 46 → wr.ownsRow base e s u n xs → w2.ownsRow base e s u n xs := fun he ho => ownsRow_same ho (fun g hg => hc.block g (ownsRow_lt ho hg).2 (by obtain ⟨cu, hcu⟩ := ownsRow_type ho hg; exact hB g cu _ hcu he))
  exact ⟨hc.blk h.box (hB _ _ _ h.box (by decide)), h.vw.keep hc (hB _ _ _ h.vw.blk (by decide)) hm, ⟨hc.blk h.rv.blk (hB _ _ _ h.rv.blk (by decide)), hr (by decide) h.rv.row, h.rv.lo⟩, hc.blk h.kbx (hB _ _ _ h.kbx (by decide)), hr (by decide) h.dsr, hrg, hr (by decide) h.kr, h.chg.trans hc (fun j hj hb => by have := hlo j hb; omega), h.at'⟩
theorem DS.more (h : DS L0 pb hb mb rb kb nk me N dg kn v ks d0 ds L A ents rs w wr) (hb' : Below wr.heap.size wr w2) : DS L0 pb hb mb rb kb nk me N dg kn v ks d0 ds L A ents rs w w2 :=
  h.keep (Chg.ofBelow (fun _ => False) hb') (fun _ _ _ _ _ e => e) (fun e => e) (fun _ e => e.elim) (h.rg.more hb')
theorem DS.fresh (h : DS L0 pb hb mb rb kb nk me N dg kn v ks d0 ds L A ents rs w wr) (hb' : Below wr.heap.size wr w2) {u : Value} {n : Nat} {xs : List Value} (ho : w2.ownsRow wr.heap.size 46 7 u n xs) (hL : L0 ≤ wr.heap.size) : DS L0 pb hb mb rb kb nk me N dg kn v ks d0 ds L A ents ((u, n, xs) :: rs) w w2 :=
  h.keep (Chg.ofBelow (fun _ => False) hb') (fun _ _ _ _ _ e => e) (fun e => e) (fun _ e => e.elim) (h.rg.fresh hb' hL ho)
theorem DS.perm {rs2 : List RW} (h : DS L0 pb hb mb rb kb nk me N dg kn v ks d0 ds L A ents rs w wr) (hp : rs.Perm rs2) : DS L0 pb hb mb rb kb nk me N dg kn v ks d0 ds L A ents rs2 w wr := ⟨h.box, h.vw, h.rv, h.kbx, h.dsr, h.rg.perm hp, h.kr, h.chg, h.at'⟩
theorem DS.rows {rs2 : List RW} (h : DS L0 pb hb mb rb kb nk me N dg kn v ks d0 ds L A ents rs w wr) (hr : RG L0 46 7 rs2 wr) : DS L0 pb hb mb rb kb nk me N dg kn v ks d0 ds L A ents rs2 w wr := ⟨h.box, h.vw, h.rv, h.kbx, h.dsr, hr, h.kr, h.chg, h.at'⟩
theorem DS.set {u : Value} {n n' : Nat} {xs xs' : List Value} (h : DS L0 pb hb mb rb kb nk me N dg kn v ks d0 ds L A ents ((u, n, xs) :: rs) w wr) (hc : Chg (fun k => u.ownBlock = some k) wr w2) (ho : w2.ownsRow L0 46 7 u n' xs') (hlo : ∀ g, u.ownBlock = some g → w.heap.size ≤ g) : DS L0 pb hb mb rb kb nk me N dg kn v ks d0 ds L A ents ((u, n', xs') :: rs) w w2 :=
  h.keep hc (fun k cu T hB hT e => row_ne h.rg.head hB hT e) (fun e => by obtain ⟨cu, hcu⟩ := ownsRow_type h.rg.head e; exact h.vw.map.ne_b (show Blk wr mb cu 46 from hcu) rfl) hlo (h.rg.set hc ho)
end
theorem mkV_succ (base : Int) (q : Nat) : mkV base (q + 1) = mkV base q ++ [⟨0, [], 0, 0, base - q, 0, 0, 0⟩] := by simp [mkV, List.range_succ]
theorem mkV_set {base : Int} {q : Nat} {D : List Ent} (h : q < D.length) : (mkV base q ++ D.drop q).set q ⟨0, [], 0, 0, base - q, 0, 0, 0⟩ = mkV base (q + 1) ++ D.drop (q + 1) := by
  rw [List.set_append_right _ _ (by rw [mkV_len]; exact Nat.le_refl _), mkV_len, Nat.sub_self, List.drop_eq_getElem_cons h, List.set_cons_zero, mkV_succ, List.append_assoc]
  rfl
theorem DS.push {L0 pb hb mb rb kb nk : Nat} {me N : Int} {dg kn v ks d0 ds : Value} {L A : List Ent} {ents : List (Value × Value)} {rs : List RW} {w Y w5 : World} (h : DS L0 pb hb mb rb kb nk me N dg kn v ks d0 ds L A ents rs w Y) {v5 : Value} (lv wv : Value) (ho : w5.ownsRow L0 106 3 v5 (ents.length + 1) (flatD ents ++ [lv, wv, .slice none 0 0])) (hg : Grew Y w5 ds v5) :
    DS L0 pb hb mb rb kb nk me N dg kn v ks d0 v5 L A (ents ++ [(lv, wv)]) rs w (w5.setCell ⟨kb, 0, none⟩ v5) := by
  have c2 := setCell_chg w5 kb 0 v5
  have hc : Chg (fun k => k = kb ∨ ds.ownBlock = some k) Y (w5.setCell ⟨kb, 0, none⟩ v5) := (hg.chg.mono (fun _ _ e => Or.inr e)).trans c2 (fun _ _ e => Or.inl e)
  have hB : ∀ {b : Nat} {E : Array Value} {U : TypeId}, Blk Y b E U → U ≠ 90 → U ≠ 106 → ¬ (b = kb ∨ ds.ownBlock = some b) := fun hb h1 h2 e => e.elim (hb.ne_t h.kbx h1) (row_ne h.dsr hb h2)
  have hr : ∀ {base e s n : Nat} {u : Value} {xs : List Value}, e ≠ 90 → e ≠ 106 → Y.ownsRow base e s u n xs → (w5.setCell ⟨kb, 0, none⟩ v5).ownsRow base e s u n xs := fun h1 h2 ho => ownsRow_same ho (fun g hg => hc.block g (ownsRow_lt ho hg).2 (by obtain ⟨cu, hcu⟩ := ownsRow_type ho hg; exact hB (show Blk Y g cu _ from hcu) h1 h2))
  have hK5 : Blk w5 kb #[ds, ks] 90 := hg.chg.blk h.kbx (row_ne h.dsr h.kbx (by decide))
  have hmb : ¬ (mb = kb ∨ ds.ownBlock = some mb) := fun e => e.elim (fun e => h.vw.map.ne_b h.kbx e.symm) (fun e => by obtain ⟨cu, hcu⟩ := ownsRow_type h.dsr e; exact h.vw.map.ne_b (show Blk Y mb cu 106 from hcu) rfl)
  refine ⟨hc.blk h.box (hB h.box (by decide) (by decide)), h.vw.keep hc (hB h.vw.blk (by decide) (by decide)) hmb, ⟨hc.blk h.rv.blk (hB h.rv.blk (by decide) (by decide)), hr (by decide) (by decide) h.rv.row, h.rv.lo⟩, hK5.set 0 v5, ?_, ⟨fun x hx => hr (by decide) (by decide) (h.rg.all x hx), h.rg.dj⟩, hr (by decide) (by decide) h.kr, h.chg.trans hc (fun j hj e => ?_), fun g hg' => ?_⟩
  · rw [flatD_app, List.length_append]
    exact ownsRow_same ho (fun g hg' => c2.block g (ownsRow_lt ho hg').2 (fun e => row_ne ho hK5 (by decide) (by rw [← e]; exact hg')))
  · rcases e with e | e
    · exact Or.inr (Or.inl e)
    · rcases h.at' j e with h1 | h1
      · exact Or.inr (Or.inr h1)
      · omega
  · rcases hg.at' g hg' with h1 | h1
    · exact h.at' g h1
    · exact Or.inr (Nat.le_trans h.chg.size h1)
theorem DS.setDg {L0 pb hb mb rb kb nk : Nat} {me N : Int} {dg kn v ks d0 ds : Value} {L A : List Ent} {ents : List (Value × Value)} {rs : List RW} {w wr : World} (h : DS L0 pb hb mb rb kb nk me N dg kn v ks d0 ds L A ents rs w wr) (dg' : Value) :
    DS L0 pb hb mb rb kb nk me N dg' kn v ks d0 ds L A ents rs w (wr.setCell ⟨pb, 2, none⟩ dg') := by
  have hc := setCell_chg wr pb 2 dg'
  have hr : ∀ {base e s n : Nat} {u : Value} {xs : List Value}, e ≠ 68 → wr.ownsRow base e s u n xs → (wr.setCell ⟨pb, 2, none⟩ dg').ownsRow base e s u n xs := fun h1 ho => ownsRow_same ho (fun g hg => hc.block g (ownsRow_lt ho hg).2 (by obtain ⟨cu, hcu⟩ := ownsRow_type ho hg; exact Blk.ne_t (show Blk wr g cu _ from hcu) h.box h1))
  exact ⟨h.box.set 2 dg', h.vw.keep hc (h.vw.blk.ne_t h.box (by decide)) (fun e => h.vw.map.ne_b h.box e.symm), ⟨hc.blk h.rv.blk (h.rv.blk.ne_t h.box (by decide)), hr (by decide) h.rv.row, h.rv.lo⟩, hc.blk h.kbx (h.kbx.ne_t h.box (by decide)), hr (by decide) h.dsr, ⟨fun x hx => hr (by decide) (h.rg.all x hx), h.rg.dj⟩, hr (by decide) h.kr, h.chg.trans hc (fun _ _ e => Or.inl e), h.at'⟩
theorem RG.sub {L0 T sz : Nat} {rs rs2 : List RW} {w : World} (h : RG L0 T sz rs w) (hs : rs2.Sublist rs) : RG L0 T sz rs2 w := ⟨fun x hx => h.all x (hs.subset hx), h.dj.sublist hs⟩
def nn99 : Ent := ⟨0, [], 0, 0, 99, 0, 0, 0⟩
theorem one99 : ∀ u ∈ (#[.string ⟨#[]⟩, .int .i64 0, .int .i64 0, .int .i64 99, .int .i64 0, .int .i64 0, .int .i64 0] : Array Value).toList, u.oneCell' = true := by
  have h9 : ((#[.string ⟨#[]⟩, .int .i64 0, .int .i64 0, .int .i64 99, .int .i64 0, .int .i64 0, .int .i64 0] : Array Value).toList).all (·.oneCell') = true := by simp [Value.oneCell']
  exact fun u hu => List.all_eq_true.1 h9 u hu
set_option maxRecDepth 100000 in
set_option maxHeartbeats 12800000 in
theorem digests_any {L0 pb hb mb rb kb M nd nk : Nat} {me : Int} {N : Nat} {dg kn v dsv ks : Value} {L A : List Ent} {ents : List (Value × Value)} {R : List RW} (w : World)
    (hp : PP L0 pb hb mb rb M me N dg kn (.pointer (some ⟨kb, 0, none⟩)) v L A w) (hM : M ≤ 300) (hK : Blk w kb #[dsv, ks] 90) (hds : w.ownsRow L0 106 3 dsv ents.length (flatD ents)) (hm : ents.length ≤ 1000)
    (hrg : RG L0 46 7 ((dg, nd, flatV (mkV (-1) nd)) :: R) w) (hnd : nd ≤ 100000) (hkr : w.ownsRow L0 44 2 kn nk (flatR (mkR (-7) nk))) (hnk : nk ≤ 100000) (hL : L0 ≤ w.heap.size) :
    Calls Try.prog 43 #[.pointer (some ⟨pb, 0, none⟩)] w fun e w' => e = .returned (.bool true) ∧ ∃ (D : List Ent) (ds' lv wv dg' : Value), D = rdigL me A ∧ DS L0 pb hb mb rb kb nk me N dg' kn v ks dsv ds' L A (ents ++ [(lv, wv)]) ((dg', D.length, flatV (mkV (-1) D.length)) :: (wv, D.length, flatV D) :: (lv, D.length, flatV D) :: R) w w' ∧ (∀ g, dg'.ownBlock = some g → w.heap.size ≤ g) ∧ (∀ g, wv.ownBlock = some g → w.heap.size ≤ g) ∧ (∀ g, lv.ownBlock = some g → w.heap.size ≤ g) := by
  obtain ⟨D, hD⟩ : ∃ D, D = rdigL me A := ⟨_, rfl⟩
  have hDl : D.length ≤ 40000 := by rw [hD]; unfold rdigL; rw [List.length_map]; have := nmsL_len me A; have := hp.al; omega
  have HDE : Hid (D = rdigL me A) := hD
  have HDG : Hid (∀ W, Vw hb mb me N L W → Calls Try.prog 14 #[.pointer (some ⟨hb, 0, none⟩)] W fun e w' => ∃ u, e = .returned u ∧ w'.ownsRow W.heap.size 46 7 u D.length (flatV D) ∧ Below W.heap.size W w') := fun W h => (digest_any W h (by have := hp.ag.ll; have := hp.al; omega)).mono (by
    rintro e w' ⟨u, ds, rfl, ht, ho, hb⟩
    have := hp.ag.dig ht
    rw [← hD] at this
    subst this
    exact ⟨u, rfl, ho, hb⟩)
  have HRD : Hid (∀ W, RVw L0 rb me N v A W → Calls Try.prog 46 #[.pointer (some ⟨rb, 0, none⟩)] W fun e w' => ∃ u, e = .returned u ∧ w'.ownsRow W.heap.size 46 7 u D.length (flatV D) ∧ Below W.heap.size W w') := fun W h => by have := rdigest_any W h (by have := hp.al; omega); rwa [← hD] at this
  obtain ⟨da, dc, hdv, _⟩ := own_slice hds
  subst hdv
  have HS0 : Hid (DS L0 pb hb mb rb kb nk me N dg kn v ks (.slice da ents.length dc) (.slice da ents.length dc) L A ents ((dg, nd, flatV (mkV (-1) nd)) :: R) w w) := ⟨hp.box, hp.vw, hp.rv, hK, hds, hrg, hkr, Chg.refl _ _, fun g hg => Or.inl hg⟩
  have HL0 : Hid (L0 ≤ w.heap.size) := hL
  have HMM : Hid (ents.length ≤ 1000) := hm
  clear hD hp hK hds hrg hkr hL
  have HMK : Hid (∀ W (y0 y1 y4 dg' : Value) (n' La : Nat), Blk W pb #[y0, y1, dg', kn, y4] 68 → W.ownsRow La 46 7 dg' n' (flatV (mkV (-1) n')) → W.ownsRow L0 44 2 kn nk (flatR (mkR (-7) nk)) → n' ≤ 100000 → Calls Try.prog 70 #[.pointer (some ⟨pb, 0, none⟩)] W fun e w' => e = .returned (.bool true) ∧ w' = W) := fun W y0 y1 y4 dg' n' La h1 h2 h3 h4 => marked_any W h1 h2 h3 h4 hnk
  go_enter Try.func43, Try.ntmps43
  go_wp2_with fail
  rename_i K hK
  try rw [show ∀ a : Act, a.put none undef = a from fun _ => rfl]
  refine wp_region_mix (fun wq => wq.cell? ⟨pb, 0, none⟩ = some (.pointer (some ⟨hb, 0, none⟩)) ∧ wq.cell? ⟨pb, 1, none⟩ = some (.pointer (some ⟨rb, 0, none⟩)) ∧ wq.cell? ⟨pb, 4, none⟩ = some (.pointer (some ⟨kb, 0, none⟩)) ∧ wq.cell? ⟨kb, 0, none⟩ = some (.slice da ents.length dc)) (fun i => i == 15 || i == 20 || i == 22 || i == 23 || i == 26) 26 (by kernel_rfl) rfl (by kernel_rfl) (by kernel_rfl) (by kernel_rfl) ?_
  refine withFrP (N := 117) rfl ?_
  intro f0 F0 hff
  have ee0 : f0 0 = Value.pointer (some ⟨pb, 0, none⟩) := hff 0
  clear hff
  have HSD : DS L0 pb hb mb rb kb nk me N dg kn v ks (.slice da ents.length dc) (.slice da ents.length dc) L A ents ((dg, nd, flatV (mkV (-1) nd)) :: R) w (({ w with drawn := w.drawn + 1 } : World)) := HS0.out.more (Below.drew (Below.refl w.heap.size w))
  have HCA : ∀ (W : World) (rs : List RW), DS L0 pb hb mb rb kb nk me N dg kn v ks (.slice da ents.length dc) (.slice da ents.length dc) L A ents rs w W → (fun wq => wq.cell? ⟨pb, 0, none⟩ = some (.pointer (some ⟨hb, 0, none⟩)) ∧ wq.cell? ⟨pb, 1, none⟩ = some (.pointer (some ⟨rb, 0, none⟩)) ∧ wq.cell? ⟨pb, 4, none⟩ = some (.pointer (some ⟨kb, 0, none⟩)) ∧ wq.cell? ⟨kb, 0, none⟩ = some (.slice da ents.length dc)) W := fun W rs h => ⟨h.box.cell 0, h.box.cell 1, h.box.cell 4, h.kbx.cell 0⟩
  have HCC : (fun wq => wq.cell? ⟨pb, 0, none⟩ = some (.pointer (some ⟨hb, 0, none⟩)) ∧ wq.cell? ⟨pb, 1, none⟩ = some (.pointer (some ⟨rb, 0, none⟩)) ∧ wq.cell? ⟨pb, 4, none⟩ = some (.pointer (some ⟨kb, 0, none⟩)) ∧ wq.cell? ⟨kb, 0, none⟩ = some (.slice da ents.length dc)) (({ w with drawn := w.drawn + 1 } : World)) := HCA _ _ HSD
  refine lyp F0 rfl HCC rfl (by omega) (wanted_none rfl) (v := Value.pointer (some ⟨pb, 0, none⟩)) (fun wr hwr => by simp only [execOp, (F0.eval 0 (by omega)).trans (show _ = Value.pointer (some ⟨pb, 0, none⟩) from by simp [upd, ee0])]; first | rfl | simp [go_sem]) fun F1 => ?_
  refine lyp F1 rfl HCC rfl (by omega) (wanted_none rfl) (v := Value.pointer (some ⟨pb, 0, none⟩)) (fun wr hwr => by simp only [execOp, (F1.eval 10 (by omega)).trans (show _ = Value.pointer (some ⟨pb, 0, none⟩) from by simp [upd, ee0])]; simp [go_sem]) fun F2 => ?_
  refine lyp F2 rfl HCC rfl (by omega) (wanted_none rfl) (v := Value.pointer (some ⟨pb, 4, none⟩)) (fun wr hwr => by simp only [execOp, (F2.eval 11 (by omega)).trans (show _ = Value.pointer (some ⟨pb, 0, none⟩) from by simp [upd, ee0])]; simp [go_sem]) fun F3 => ?_
  refine lyp F3 rfl HCC rfl (by omega) (wanted_none rfl) (v := Value.pointer (some ⟨kb, 0, none⟩)) (fun wr hwr => by simp only [execOp, (F3.eval 12 (by omega)).trans (show _ = Value.pointer (some ⟨pb, 4, none⟩) from by simp [upd, ee0])]; simp [go_sem, hwr.2.2.1]) fun F4 => ?_
  refine lyp F4 rfl HCC rfl (by omega) (wanted_none rfl) (v := Value.pointer (some ⟨pb, 0, none⟩)) (fun wr hwr => by simp only [execOp, (F4.eval 0 (by omega)).trans (show _ = Value.pointer (some ⟨pb, 0, none⟩) from by simp [upd, ee0])]; first | rfl | simp [go_sem]) fun F5 => ?_
  refine lyp F5 rfl HCC rfl (by omega) (wanted_none rfl) (v := Value.pointer (some ⟨pb, 0, none⟩)) (fun wr hwr => by simp only [execOp, (F5.eval 14 (by omega)).trans (show _ = Value.pointer (some ⟨pb, 0, none⟩) from by simp [upd, ee0])]; simp [go_sem]) fun F6 => ?_
  refine lyp F6 rfl HCC rfl (by omega) (wanted_none rfl) (v := Value.pointer (some ⟨pb, 4, none⟩)) (fun wr hwr => by simp only [execOp, (F6.eval 15 (by omega)).trans (show _ = Value.pointer (some ⟨pb, 0, none⟩) from by simp [upd, ee0])]; simp [go_sem]) fun F7 => ?_
  refine lyp F7 rfl HCC rfl (by omega) (wanted_none rfl) (v := Value.pointer (some ⟨kb, 0, none⟩)) (fun wr hwr => by simp only [execOp, (F7.eval 16 (by omega)).trans (show _ = Value.pointer (some ⟨pb, 4, none⟩) from by simp [upd, ee0])]; simp [go_sem, hwr.2.2.1]) fun F8 => ?_
  refine lyp F8 rfl HCC rfl (by omega) (wanted_none rfl) (v := Value.pointer (some ⟨kb, 0, none⟩)) (fun wr hwr => by simp only [execOp, (F8.eval 17 (by omega)).trans (show _ = Value.pointer (some ⟨kb, 0, none⟩) from by simp [upd, ee0])]; simp [go_sem]) fun F9 => ?_
  refine lyp F9 rfl HCC rfl (by omega) (wanted_none rfl) (v := Value.pointer (some ⟨kb, 0, none⟩)) (fun wr hwr => by simp only [execOp, (F9.eval 18 (by omega)).trans (show _ = Value.pointer (some ⟨kb, 0, none⟩) from by simp [upd, ee0])]; simp [go_sem]) fun F10 => ?_
  refine lyp F10 rfl HCC rfl (by omega) (wanted_none rfl) (v := Value.slice da ents.length dc) (fun wr hwr => by simp only [execOp, (F10.eval 19 (by omega)).trans (show _ = Value.pointer (some ⟨kb, 0, none⟩) from by simp [upd, ee0])]; simp [go_sem, hwr.2.2.2]) fun F11 => ?_
  refine lyp F11 rfl HCC rfl (by omega) (wanted_none rfl) (v := Value.pointer (some ⟨pb, 0, none⟩)) (fun wr hwr => by simp only [execOp, (F11.eval 0 (by omega)).trans (show _ = Value.pointer (some ⟨pb, 0, none⟩) from by simp [upd, ee0])]; first | rfl | simp [go_sem]) fun F12 => ?_
  refine lyp F12 rfl HCC rfl (by omega) (wanted_none rfl) (v := Value.pointer (some ⟨pb, 0, none⟩)) (fun wr hwr => by simp only [execOp, (F12.eval 21 (by omega)).trans (show _ = Value.pointer (some ⟨pb, 0, none⟩) from by simp [upd, ee0])]; simp [go_sem]) fun F13 => ?_
  refine lyp F13 rfl HCC rfl (by omega) (wanted_none rfl) (v := Value.pointer (some ⟨pb, 0, none⟩)) (fun wr hwr => by simp only [execOp, (F13.eval 22 (by omega)).trans (show _ = Value.pointer (some ⟨pb, 0, none⟩) from by simp [upd, ee0])]; simp [go_sem]) fun F14 => ?_
  refine lyp F14 rfl HCC rfl (by omega) (wanted_none rfl) (v := Value.pointer (some ⟨hb, 0, none⟩)) (fun wr hwr => by simp only [execOp, (F14.eval 23 (by omega)).trans (show _ = Value.pointer (some ⟨pb, 0, none⟩) from by simp [upd, ee0])]; simp [go_sem, hwr.1]) fun F15 => ?_
  refine lcp F15 rfl HCC rfl (by omega) (wanted_none rfl) (g := 14) (args := #[Value.pointer (some ⟨hb, 0, none⟩)]) (by simp only [execOp, resolve, invoke, List.map_toArray, List.map_cons, List.map_nil, (F15.eval 24 (by omega)).trans (show _ = Value.pointer (some ⟨hb, 0, none⟩) from by simp [upd, ee0])]; simp [go_sem, Act.eval]) (HDG.out (({ w with drawn := w.drawn + 1 } : World)) HSD.vw) ?_
  rintro e9 Y1 ⟨lv, rfl, hlv, hbY1⟩
  obtain ⟨lva, lvc, hlvv, hq1⟩ := own_slice hlv
  subst hlvv
  refine ⟨_, rfl, fun F16 => ?_⟩
  have HS1 : DS L0 pb hb mb rb kb nk me N dg kn v ks (.slice da ents.length dc) (.slice da ents.length dc) L A ents ((.slice lva D.length lvc, D.length, flatV D) :: (dg, nd, flatV (mkV (-1) nd)) :: R) w Y1 := HSD.fresh hbY1 hlv HL0.out
  have HC1 : (fun wq => wq.cell? ⟨pb, 0, none⟩ = some (.pointer (some ⟨hb, 0, none⟩)) ∧ wq.cell? ⟨pb, 1, none⟩ = some (.pointer (some ⟨rb, 0, none⟩)) ∧ wq.cell? ⟨pb, 4, none⟩ = some (.pointer (some ⟨kb, 0, none⟩)) ∧ wq.cell? ⟨kb, 0, none⟩ = some (.slice da ents.length dc)) Y1 := HCA _ _ HS1
  have HY1 : Hid (w.heap.size ≤ Y1.heap.size) := hbY1.size
  have HLV : Hid (∀ g, (Value.slice lva D.length lvc).ownBlock = some g → w.heap.size ≤ g) := fun g hg => (ownsRow_lt hlv hg).1
  refine lyp F16 rfl HC1 rfl (by omega) (wanted_none rfl) (v := Value.pointer (some ⟨pb, 0, none⟩)) (fun wr hwr => by simp only [execOp, (F16.eval 0 (by omega)).trans (show _ = Value.pointer (some ⟨pb, 0, none⟩) from by simp [upd, ee0])]; first | rfl | simp [go_sem]) fun F17 => ?_
  refine lyp F17 rfl HC1 rfl (by omega) (wanted_none rfl) (v := Value.pointer (some ⟨pb, 0, none⟩)) (fun wr hwr => by simp only [execOp, (F17.eval 26 (by omega)).trans (show _ = Value.pointer (some ⟨pb, 0, none⟩) from by simp [upd, ee0])]; simp [go_sem]) fun F18 => ?_
  refine lyp F18 rfl HC1 rfl (by omega) (wanted_none rfl) (v := Value.pointer (some ⟨pb, 1, none⟩)) (fun wr hwr => by simp only [execOp, (F18.eval 27 (by omega)).trans (show _ = Value.pointer (some ⟨pb, 0, none⟩) from by simp [upd, ee0])]; simp [go_sem]) fun F19 => ?_
  refine lyp F19 rfl HC1 rfl (by omega) (wanted_none rfl) (v := Value.pointer (some ⟨rb, 0, none⟩)) (fun wr hwr => by simp only [execOp, (F19.eval 28 (by omega)).trans (show _ = Value.pointer (some ⟨pb, 1, none⟩) from by simp [upd, ee0])]; simp [go_sem, hwr.2.1]) fun F20 => ?_
  refine lcp F20 rfl HC1 rfl (by omega) (wanted_none rfl) (g := 46) (args := #[Value.pointer (some ⟨rb, 0, none⟩)]) (by simp only [execOp, resolve, invoke, List.map_toArray, List.map_cons, List.map_nil, (F20.eval 29 (by omega)).trans (show _ = Value.pointer (some ⟨rb, 0, none⟩) from by simp [upd, ee0])]; simp [go_sem, Act.eval]) (HRD.out Y1 HS1.rv) ?_
  rintro e9 Y2 ⟨wv, rfl, hwv, hbY2⟩
  obtain ⟨wva, wvc, hwvv, hq2⟩ := own_slice hwv
  subst hwvv
  refine ⟨_, rfl, fun F21 => ?_⟩
  have HS2 : DS L0 pb hb mb rb kb nk me N dg kn v ks (.slice da ents.length dc) (.slice da ents.length dc) L A ents ((.slice wva D.length wvc, D.length, flatV D) :: (.slice lva D.length lvc, D.length, flatV D) :: (dg, nd, flatV (mkV (-1) nd)) :: R) w Y2 := HS1.fresh hbY2 hwv (Nat.le_trans HL0.out HY1.out)
  have HC2 : (fun wq => wq.cell? ⟨pb, 0, none⟩ = some (.pointer (some ⟨hb, 0, none⟩)) ∧ wq.cell? ⟨pb, 1, none⟩ = some (.pointer (some ⟨rb, 0, none⟩)) ∧ wq.cell? ⟨pb, 4, none⟩ = some (.pointer (some ⟨kb, 0, none⟩)) ∧ wq.cell? ⟨kb, 0, none⟩ = some (.slice da ents.length dc)) Y2 := HCA _ _ HS2
  have HWV : Hid (∀ g, (Value.slice wva D.length wvc).ownBlock = some g → w.heap.size ≤ g) := fun g hg => Nat.le_trans HY1.out (ownsRow_lt hwv hg).1
  have HY2 : Hid (w.heap.size ≤ Y2.heap.size) := Nat.le_trans HY1.out hbY2.size
  refine lyp F21 rfl HC2 rfl (by omega) (wanted_none rfl) (v := Value.agg #[.slice lva D.length lvc, .slice wva D.length wvc, .slice none 0 0]) (fun wr hwr => by simp only [execOp, List.map_toArray, List.map_cons, List.map_nil, (F21.eval 25 (by omega)).trans (show _ = Value.slice lva D.length lvc from by simp [upd, ee0]), (F21.eval 30 (by omega)).trans (show _ = Value.slice wva D.length wvc from by simp [upd, ee0])]; simp [go_sem]; try rfl) fun F22 => ?_
  have HC3 : (fun wq => wq.cell? ⟨pb, 0, none⟩ = some (.pointer (some ⟨hb, 0, none⟩)) ∧ wq.cell? ⟨pb, 1, none⟩ = some (.pointer (some ⟨rb, 0, none⟩)) ∧ wq.cell? ⟨pb, 4, none⟩ = some (.pointer (some ⟨kb, 0, none⟩)) ∧ wq.cell? ⟨kb, 0, none⟩ = some (.slice da ents.length dc)) (Y2.alloc (.cells #[.slice lva D.length lvc, .slice wva D.length wvc, .slice none 0 0] 106)) := HCA _ _ (HS2.more ((Below.refl _ _).alloc (Nat.le_refl _) _))
  refine lep F22 rfl HC2 rfl (by omega) (wanted_none rfl) (v := Value.slice (some ⟨Y2.heap.size, 0, none⟩) 1 1) (w1 := Y2.alloc (.cells #[.slice lva D.length lvc, .slice wva D.length wvc, .slice none 0 0] 106)) (by simp only [execOp, List.map_toArray, List.map_cons, List.map_nil, (F22.eval 31 (by omega)).trans (show _ = Value.agg #[.slice lva D.length lvc, .slice wva D.length wvc, .slice none 0 0] from by simp [upd, ee0])]; simp [go_sem]) fun F23 => ?_
  obtain ⟨v5, w5, hrun, ho5, hg5⟩ := app_one 87 106 (.agg #[.slice none 0 0, .slice none 0 0, .slice none 0 0]) 3 72 Try.underlying87 info106 rfl (by decide) (by decide) HS2.dsr #[.slice lva D.length lvc, .slice wva D.length wvc, .slice none 0 0] rfl (fun u hu => by simp at hu; rcases hu with rfl | rfl | rfl <;> rfl) (by have := HMM.out; omega) (Nat.le_trans HL0.out HY2.out)
  obtain ⟨ao5, cap5, hv5, hq5⟩ := own_slice ho5
  subst hv5
  have hnb : ∀ (b : Nat) (E : Array Value) (U : TypeId), Blk Y2 b E U → U ≠ 106 → ¬ (Value.slice da ents.length dc).ownBlock = some b := fun b E U hB hU e => row_ne HS2.dsr hB hU e
  have hB5 := hg5.chg.blk HS2.box (hnb _ _ _ HS2.box (by decide))
  have hK5 := hg5.chg.blk HS2.kbx (hnb _ _ _ HS2.kbx (by decide))
  have HC5 : (fun wq => wq.cell? ⟨pb, 0, none⟩ = some (.pointer (some ⟨hb, 0, none⟩)) ∧ wq.cell? ⟨pb, 1, none⟩ = some (.pointer (some ⟨rb, 0, none⟩)) ∧ wq.cell? ⟨pb, 4, none⟩ = some (.pointer (some ⟨kb, 0, none⟩)) ∧ wq.cell? ⟨kb, 0, none⟩ = some (.slice da ents.length dc)) w5 := ⟨hB5.cell 0, hB5.cell 1, hB5.cell 4, hK5.cell 0⟩
  have hz5 : w5.cell? ⟨kb, 0, none⟩ = some (.slice da ents.length dc) := hK5.cell 0
  have hf5 : w5.frozen? ⟨kb, 0, none⟩ = false := hK5.frozen 0
  refine lep F23 rfl HC3 rfl (by omega) (wanted_none rfl) (v := Value.slice ao5 (ents.length + 1) cap5) (w1 := w5) (by simp only [execOp, resolve, invoke, builtin, List.map_toArray, List.map_cons, List.map_nil, (F23.eval 20 (by omega)).trans (show _ = Value.slice da ents.length dc from by simp [upd, ee0]), (F23.eval 32 (by omega)).trans (show _ = Value.slice (some ⟨Y2.heap.size, 0, none⟩) 1 1 from by simp [upd, ee0])]; simp only [Sem.run_bind, Sem.run_pure, Result.andThen_ok, show _ = _ from hrun _]; try rfl) fun F24 => ?_
  refine lyp F24 rfl HC5 rfl (by omega) (wanted_none rfl) (v := Value.pointer (some ⟨kb, 0, none⟩)) (fun wr hwr => by simp only [execOp, (F24.eval 13 (by omega)).trans (show _ = Value.pointer (some ⟨kb, 0, none⟩) from by simp [upd, ee0])]; simp [go_sem]) fun F25 => ?_
  refine lyp F25 rfl HC5 rfl (by omega) (wanted_none rfl) (v := Value.pointer (some ⟨kb, 0, none⟩)) (fun wr hwr => by simp only [execOp, (F25.eval 34 (by omega)).trans (show _ = Value.pointer (some ⟨kb, 0, none⟩) from by simp [upd, ee0])]; simp [go_sem]) fun F26 => ?_
  refine lst rfl HC5 rfl (wanted_none rfl) (w1 := w5.setCell ⟨kb, 0, none⟩ (.slice ao5 (ents.length + 1) cap5)) (by simp only [execOp, (F26.eval 35 (by omega)).trans (show _ = Value.pointer (some ⟨kb, 0, none⟩) from by simp [upd, ee0]), (F26.eval 33 (by omega)).trans (show _ = Value.slice ao5 (ents.length + 1) cap5 from by simp [upd, ee0])]; simp [go_sem, hf5, hz5]) ?_
  refine ⟨fun h => by omega, ?_⟩
  refine hK _ _ ?_
  clear F0 F1 F2 F3 F4 F5 F6 F7 F8 F9 F10 F11 F12 F13 F14 F15 F16 F17 F18 F19 F20 F21 F22 F23 F24 F25 F26 ee0 HCC HC1 HC2 HC3 HC5 hz5 hf5 hrun
  simp only [Act.put, List.setIfInBounds_toArray, List.set_cons_succ, List.set_cons_zero]
  obtain ⟨Z1, hZ1⟩ : ∃ Z1, Z1 = w5.setCell ⟨kb, 0, none⟩ (.slice ao5 (ents.length + 1) cap5) := ⟨_, rfl⟩
  have hs3 := HS2.push (.slice lva D.length lvc) (.slice wva D.length wvc) ho5 hg5
  rw [← hZ1] at hs3
  have HS3 : Hid (DS L0 pb hb mb rb kb nk me N dg kn v ks (.slice da ents.length dc) (.slice ao5 (ents.length + 1) cap5) L A (ents ++ [(.slice lva D.length lvc, .slice wva D.length wvc)]) ((.slice wva D.length wvc, D.length, flatV D) :: (.slice lva D.length lvc, D.length, flatV D) :: (dg, nd, flatV (mkV (-1) nd)) :: R) w Z1) := hs3
  rw [← hZ1]
  have HLZ : Hid (w.heap.size ≤ Z1.heap.size) := hs3.chg.size
  have p0 : Z1.cell? ⟨pb, 0, none⟩ = some (.pointer (some ⟨hb, 0, none⟩)) := hs3.box.cell 0
  clear hZ1 hs3 HS2 ho5 hg5 hq5 hnb hB5 hK5 HS1 hlv hbY1 hq1 hwv hbY2 hq2 HSD HCA HY1 HY2 HS0 HMM
  go_wp2_with fail
  refine Calls.mono (HDG.out Z1 HS3.out.vw) ?_
  rintro e9 w6 ⟨l1, rfl, hl1, hb6⟩
  obtain ⟨la, lc, hl1v, hq1⟩ := own_slice hl1
  subst hl1v
  have HS4 : Hid (DS L0 pb hb mb rb kb nk me N dg kn v ks (.slice da ents.length dc) (.slice ao5 (ents.length + 1) cap5) L A (ents ++ [(.slice lva D.length lvc, .slice wva D.length wvc)]) ((.slice la D.length lc, D.length, flatV D) :: ((.slice wva D.length wvc, D.length, flatV D) :: (.slice lva D.length lvc, D.length, flatV D) :: (dg, nd, flatV (mkV (-1) nd)) :: R)) w w6) := HS3.out.fresh hb6 hl1 (Nat.le_trans HL0.out HLZ.out)
  have HLL : Hid (∀ g, (Value.slice la D.length lc).ownBlock = some g → w.heap.size ≤ g) := fun g hg => Nat.le_trans HLZ.out (ownsRow_lt hl1 hg).1
  have HW6 : Hid (w.heap.size ≤ w6.heap.size) := HS4.out.chg.size
  have p1 : w6.cell? ⟨pb, 0, none⟩ = some (.pointer (some ⟨hb, 0, none⟩)) := HS4.out.box.cell 0
  clear hl1 hb6 hq1 HS3 p0 HLZ
  go_wp2_with fail
  refine Calls.mono (HDG.out w6 HS4.out.vw) ?_
  rintro e9 w7 ⟨m1, rfl, hm1, hb7⟩
  obtain ⟨ma, mc, hm1v, hq2⟩ := own_slice hm1
  subst hm1v
  have HS5 : Hid (DS L0 pb hb mb rb kb nk me N dg kn v ks (.slice da ents.length dc) (.slice ao5 (ents.length + 1) cap5) L A (ents ++ [(.slice lva D.length lvc, .slice wva D.length wvc)]) ((.slice ma D.length mc, D.length, flatV D) :: (.slice la D.length lc, D.length, flatV D) :: ((.slice wva D.length wvc, D.length, flatV D) :: (.slice lva D.length lvc, D.length, flatV D) :: (dg, nd, flatV (mkV (-1) nd)) :: R)) w w7) := HS4.out.fresh hb7 hm1 (Nat.le_trans HL0.out HW6.out)
  have HML : Hid (∀ g, (Value.slice ma D.length mc).ownBlock = some g → w.heap.size ≤ g) := fun g hg => Nat.le_trans HW6.out (ownsRow_lt hm1 hg).1
  have p2 : w7.cell? ⟨pb, 1, none⟩ = some (.pointer (some ⟨rb, 0, none⟩)) := HS5.out.box.cell 1
  clear hm1 hb7 hq2 HS4 p1 HW6
  go_wp2_with fail
  refine Calls.mono (HRD.out w7 HS5.out.rv) ?_
  rintro e9 w8 ⟨t1, rfl, ht1, hb8⟩
  obtain ⟨ta, tc, ht1v, _, _, hft, _⟩ := own_fromV ht1
  subst ht1v
  have HS6 : Hid (DS L0 pb hb mb rb kb nk me N dg kn v ks (.slice da ents.length dc) (.slice ao5 (ents.length + 1) cap5) L A (ents ++ [(.slice lva D.length lvc, .slice wva D.length wvc)]) ((.slice ma D.length mc, D.length, flatV D) :: (.slice la D.length lc, D.length, flatV D) :: ((.slice wva D.length wvc, D.length, flatV D) :: (.slice lva D.length lvc, D.length, flatV D) :: (dg, nd, flatV (mkV (-1) nd)) :: R)) w w8) := HS5.out.more hb8
  obtain ⟨_, _, hlv8, _, _, hfl, _⟩ := own_fromV (HS6.out.rg.all (.slice la D.length lc, D.length, flatV D) (List.mem_cons_of_mem _ (List.mem_cons_self ..)))
  cases hlv8
  have HAL : Hid _ := all_yes la ta D.length lc tc D w8 rfl (by unfold maxLen; omega) hfl hft
  clear ht1 hb8 hft hfl HS5 p2
  go_wp2_with fail
  refine Calls.mono HAL.out ?_
  rintro e9 w9 ⟨rfl, hb9⟩
  have HS7 : Hid (DS L0 pb hb mb rb kb nk me N dg kn v ks (.slice da ents.length dc) (.slice ao5 (ents.length + 1) cap5) L A (ents ++ [(.slice lva D.length lvc, .slice wva D.length wvc)]) ((.slice ma D.length mc, D.length, flatV D) :: (.slice la D.length lc, D.length, flatV D) :: ((.slice wva D.length wvc, D.length, flatV D) :: (.slice lva D.length lvc, D.length, flatV D) :: (dg, nd, flatV (mkV (-1) nd)) :: R)) w w9) := HS6.out.more hb9
  have HMA : Hid _ := HMK.out w9 _ _ _ dg nd L0 HS7.out.box (HS7.out.rg.all (dg, nd, flatV (mkV (-1) nd)) (by simp)) HS7.out.kr hnd
  clear hb9 HS6 HAL
  go_wp2_with fail
  refine Calls.mono HMA.out ?_
  rintro e9 w9b ⟨rfl, hw9⟩
  replace hw9 := hw9.symm
  subst hw9
  have HS8 : Hid (DS L0 pb hb mb rb kb nk me N dg kn v ks (.slice da ents.length dc) (.slice ao5 (ents.length + 1) cap5) L A (ents ++ [(.slice lva D.length lvc, .slice wva D.length wvc)]) ((.slice la D.length lc, D.length, flatV D) :: (.slice ma D.length mc, D.length, flatV D) :: ((.slice wva D.length wvc, D.length, flatV D) :: (.slice lva D.length lvc, D.length, flatV D) :: (dg, nd, flatV (mkV (-1) nd)) :: R)) w w9) := HS7.out.perm (List.Perm.swap _ _ _)
  clear HMA HS7
  go_wp2_with fail
  go_loopw [6] (fun i wr => ∃ q : Nat, q ≤ D.length ∧ i = .int .i64 q ∧ DS L0 pb hb mb rb kb nk me N dg kn v ks (.slice da ents.length dc) (.slice ao5 (ents.length + 1) cap5) L A (ents ++ [(.slice lva D.length lvc, .slice wva D.length wvc)]) ((.slice la D.length lc, D.length, flatV (mkV (-1) q ++ D.drop q)) :: (.slice ma D.length mc, D.length, flatV D) :: ((.slice wva D.length wvc, D.length, flatV D) :: (.slice lva D.length lvc, D.length, flatV D) :: (dg, nd, flatV (mkV (-1) nd)) :: R)) w wr) (fun i _ => D.length - (intOf i).toNat)
  case atStart => exact ⟨0, Nat.zero_le _, rfl, by simpa [mkV] using HS8.out⟩
  case round =>
    obtain ⟨q, hq, rfl, hst⟩ := hrel
    by_cases hlt : q < D.length
    · obtain ⟨g, hga⟩ : ∃ g, la = some ⟨g, 0, none⟩ := by
        obtain ⟨_, _, e, _, _, h⟩ := own_read hst.rg.head
        cases e
        obtain ⟨g, e, _⟩ := h (by simpa using Nat.lt_of_le_of_lt (Nat.zero_le _) hlt)
        exact ⟨g, e⟩
      subst hga
      have hx : World.ownsRow wr L0 46 7 (.slice (some ⟨g, 0, none⟩) D.length lc) D.length (flatV (mkV (-1) q ++ D.drop q)) := hst.rg.head
      have hdl : (mkV (-1) q ++ D.drop q).length = D.length := by rw [List.length_append, mkV_len, List.length_drop]; omega
      have hcell : ∀ t, t < 7 → ∃ u, wr.cell? ⟨g, q * 7 + t, none⟩ = some u := fun t ht => by
        have e0 := World.ownsRow.cellAt hx (q * 7 + t) (by omega)
        exact ⟨_, e0.trans (List.getElem?_eq_getElem (by rw [flatV_length, hdl]; omega))⟩
      obtain ⟨u0, c0⟩ := hcell 0 (by decide)
      rw [Nat.add_zero] at c0
      obtain ⟨u1, c1'⟩ := hcell 1 (by decide)
      obtain ⟨u2, c2'⟩ := hcell 2 (by decide)
      obtain ⟨u3, c3'⟩ := hcell 3 (by decide)
      obtain ⟨u4, c4'⟩ := hcell 4 (by decide)
      obtain ⟨u5, c5'⟩ := hcell 5 (by decide)
      obtain ⟨u6, c6'⟩ := hcell 6 (by decide)
      have f0 := World.ownsRow.frozenAt hx (q * 7)
      have f1 := World.ownsRow.frozenAt hx (q * 7 + 1)
      have f2 := World.ownsRow.frozenAt hx (q * 7 + 2)
      have f3 := World.ownsRow.frozenAt hx (q * 7 + 3)
      have f4 := World.ownsRow.frozenAt hx (q * 7 + 4)
      have f5 := World.ownsRow.frozenAt hx (q * 7 + 5)
      have f6 := World.ownsRow.frozenAt hx (q * 7 + 6)
      obtain ⟨o0, g0⟩ := World.ownsRow.stored hx (q * 7) (.string ⟨([] : List UInt8).toArray⟩)
      obtain ⟨o1, g1⟩ := World.ownsRow.stored o0 (q * 7 + 1) (.int .i64 0)
      obtain ⟨o2, g2⟩ := World.ownsRow.stored o1 (q * 7 + 2) (.int .i64 0)
      obtain ⟨o3, g3⟩ := World.ownsRow.stored o2 (q * 7 + 3) (.int .i64 (-1 - (q : Int)))
      obtain ⟨o4, g4⟩ := World.ownsRow.stored o3 (q * 7 + 4) (.int .i64 0)
      obtain ⟨o5, g5⟩ := World.ownsRow.stored o4 (q * 7 + 5) (.int .i64 0)
      obtain ⟨o6, g6⟩ := World.ownsRow.stored o5 (q * 7 + 6) (.int .i64 0)
      rw [flatV_set (mkV (-1) q ++ D.drop q) q ⟨0, [], 0, 0, -1 - (q : Int), 0, 0, 0⟩ (by rw [hdl]; exact hlt), mkV_set hlt] at o6
      have s1 : ∀ (W : World) (j : Nat) (u : Value), Chg (fun k => k = g) W (W.setCell ⟨g, j, none⟩ u) := fun W j u => setCell_chg W g j u
      have hc7 := (((((((s1 wr (q * 7) (.string ⟨([] : List UInt8).toArray⟩)).trans (s1 _ (q * 7 + 1) (.int .i64 0)) (fun _ _ e => e)).trans (s1 _ (q * 7 + 2) (.int .i64 0)) (fun _ _ e => e)).trans (s1 _ (q * 7 + 3) (.int .i64 (-1 - (q : Int)))) (fun _ _ e => e)).trans (s1 _ (q * 7 + 4) (.int .i64 0)) (fun _ _ e => e)).trans (s1 _ (q * 7 + 5) (.int .i64 0)) (fun _ _ e => e)).trans (s1 _ (q * 7 + 6) (.int .i64 0)) (fun _ _ e => e))
      have HS6 : Hid _ := hst.set (hc7.mono (fun j _ e => by rw [e]; rfl)) o6 HLL.out
      have hw : IntKind.i64.wrap (-1 - (q : Int)) = -1 - (q : Int) := by rw [IntKind.wrap_i64]; omega
      clear hcell hdl o0 o1 o2 o3 o4 o5 o6 g0 g1 g2 g3 g4 g5 g6 s1 hc7 hst hx
      go_wp2_with fail
      go_roundw
      case rel => exact ⟨q + 1, by omega, by go_num, HS6.out⟩
      case measure => simp [intOf]; omega
    · obtain rfl : q = D.length := by omega
      rw [List.drop_length, List.append_nil] at hst
      have HS9 : Hid (DS L0 pb hb mb rb kb nk me N dg kn v ks (.slice da ents.length dc) (.slice ao5 (ents.length + 1) cap5) L A (ents ++ [(.slice lva D.length lvc, .slice wva D.length wvc)]) ((.slice la D.length lc, D.length, flatV (mkV (-1) D.length)) :: (.slice ma D.length mc, D.length, flatV D) :: ((.slice wva D.length wvc, D.length, flatV D) :: (.slice lva D.length lvc, D.length, flatV D) :: (dg, nd, flatV (mkV (-1) nd)) :: R)) w wr) := hst
      clear hst HS8
      have p3 : wr.cell? ⟨pb, 1, none⟩ = some (.pointer (some ⟨rb, 0, none⟩)) := HS9.out.box.cell 1
      go_wp2_with fail
      refine Calls.mono (HRD.out wr HS9.out.rv) ?_
      rintro e9 w10 ⟨t2, rfl, ht2, hb10⟩
      obtain ⟨tb, tc2, ht2v, _, _, hft2, _⟩ := own_fromV ht2
      subst ht2v
      have HS10 : Hid (DS L0 pb hb mb rb kb nk me N dg kn v ks (.slice da ents.length dc) (.slice ao5 (ents.length + 1) cap5) L A (ents ++ [(.slice lva D.length lvc, .slice wva D.length wvc)]) ((.slice la D.length lc, D.length, flatV (mkV (-1) D.length)) :: (.slice ma D.length mc, D.length, flatV D) :: ((.slice wva D.length wvc, D.length, flatV D) :: (.slice lva D.length lvc, D.length, flatV D) :: (dg, nd, flatV (mkV (-1) nd)) :: R)) w w10) := HS9.out.more hb10
      obtain ⟨_, _, hmv8, _, _, hfm, _⟩ := own_fromV (HS10.out.rg.all (.slice ma D.length mc, D.length, flatV D) (List.mem_cons_of_mem _ (List.mem_cons_self ..)))
      cases hmv8
      have HAL2 : Hid _ := all_yes ma tb D.length mc tc2 D w10 rfl (by unfold maxLen; omega) hfm hft2
      clear ht2 hb10 hft2 hfm HS9 p3
      go_wp2_with fail
      refine Calls.mono HAL2.out ?_
      rintro e9 w11 ⟨rfl, hb11⟩
      have HS11 : Hid (DS L0 pb hb mb rb kb nk me N dg kn v ks (.slice da ents.length dc) (.slice ao5 (ents.length + 1) cap5) L A (ents ++ [(.slice lva D.length lvc, .slice wva D.length wvc)]) ((.slice ma D.length mc, D.length, flatV D) :: (.slice la D.length lc, D.length, flatV (mkV (-1) D.length)) :: ((.slice wva D.length wvc, D.length, flatV D) :: (.slice lva D.length lvc, D.length, flatV D) :: (dg, nd, flatV (mkV (-1) nd)) :: R)) w w11) := (HS10.out.more hb11).perm (List.Perm.swap _ _ _)
      clear hb11 HS10 HAL2
      go_wp2_with fail
      go_loopw [7] (fun i wr => ∃ q : Nat, q ≤ D.length ∧ i = .int .i64 q ∧ DS L0 pb hb mb rb kb nk me N dg kn v ks (.slice da ents.length dc) (.slice ao5 (ents.length + 1) cap5) L A (ents ++ [(.slice lva D.length lvc, .slice wva D.length wvc)]) ((.slice ma D.length mc, D.length, flatV (mkV (-200) q ++ D.drop q)) :: (.slice la D.length lc, D.length, flatV (mkV (-1) D.length)) :: ((.slice wva D.length wvc, D.length, flatV D) :: (.slice lva D.length lvc, D.length, flatV D) :: (dg, nd, flatV (mkV (-1) nd)) :: R)) w wr) (fun i _ => D.length - (intOf i).toNat)
      case atStart => exact ⟨0, Nat.zero_le _, rfl, by simpa [mkV] using HS11.out⟩
      case round =>
        obtain ⟨q, hq, rfl, hst⟩ := hrel
        by_cases hlt : q < D.length
        · obtain ⟨g, hga⟩ : ∃ g, ma = some ⟨g, 0, none⟩ := by
            obtain ⟨_, _, e, _, _, h⟩ := own_read hst.rg.head
            cases e
            obtain ⟨g, e, _⟩ := h (by simpa using Nat.lt_of_le_of_lt (Nat.zero_le _) hlt)
            exact ⟨g, e⟩
          subst hga
          have hx : World.ownsRow wr L0 46 7 (.slice (some ⟨g, 0, none⟩) D.length mc) D.length (flatV (mkV (-200) q ++ D.drop q)) := hst.rg.head
          have hdl : (mkV (-200) q ++ D.drop q).length = D.length := by rw [List.length_append, mkV_len, List.length_drop]; omega
          have hcell : ∀ t, t < 7 → ∃ u, wr.cell? ⟨g, q * 7 + t, none⟩ = some u := fun t ht => by
            have e0 := World.ownsRow.cellAt hx (q * 7 + t) (by omega)
            exact ⟨_, e0.trans (List.getElem?_eq_getElem (by rw [flatV_length, hdl]; omega))⟩
          obtain ⟨u0, c0⟩ := hcell 0 (by decide)
          rw [Nat.add_zero] at c0
          obtain ⟨u1, c1'⟩ := hcell 1 (by decide)
          obtain ⟨u2, c2'⟩ := hcell 2 (by decide)
          obtain ⟨u3, c3'⟩ := hcell 3 (by decide)
          obtain ⟨u4, c4'⟩ := hcell 4 (by decide)
          obtain ⟨u5, c5'⟩ := hcell 5 (by decide)
          obtain ⟨u6, c6'⟩ := hcell 6 (by decide)
          have f0 := World.ownsRow.frozenAt hx (q * 7)
          have f1 := World.ownsRow.frozenAt hx (q * 7 + 1)
          have f2 := World.ownsRow.frozenAt hx (q * 7 + 2)
          have f3 := World.ownsRow.frozenAt hx (q * 7 + 3)
          have f4 := World.ownsRow.frozenAt hx (q * 7 + 4)
          have f5 := World.ownsRow.frozenAt hx (q * 7 + 5)
          have f6 := World.ownsRow.frozenAt hx (q * 7 + 6)
          obtain ⟨o0, g0⟩ := World.ownsRow.stored hx (q * 7) (.string ⟨([] : List UInt8).toArray⟩)
          obtain ⟨o1, g1⟩ := World.ownsRow.stored o0 (q * 7 + 1) (.int .i64 0)
          obtain ⟨o2, g2⟩ := World.ownsRow.stored o1 (q * 7 + 2) (.int .i64 0)
          obtain ⟨o3, g3⟩ := World.ownsRow.stored o2 (q * 7 + 3) (.int .i64 (-200 - (q : Int)))
          obtain ⟨o4, g4⟩ := World.ownsRow.stored o3 (q * 7 + 4) (.int .i64 0)
          obtain ⟨o5, g5⟩ := World.ownsRow.stored o4 (q * 7 + 5) (.int .i64 0)
          obtain ⟨o6, g6⟩ := World.ownsRow.stored o5 (q * 7 + 6) (.int .i64 0)
          rw [flatV_set (mkV (-200) q ++ D.drop q) q ⟨0, [], 0, 0, -200 - (q : Int), 0, 0, 0⟩ (by rw [hdl]; exact hlt), mkV_set hlt] at o6
          have s1 : ∀ (W : World) (j : Nat) (u : Value), Chg (fun k => k = g) W (W.setCell ⟨g, j, none⟩ u) := fun W j u => setCell_chg W g j u
          have hc7 := (((((((s1 wr (q * 7) (.string ⟨([] : List UInt8).toArray⟩)).trans (s1 _ (q * 7 + 1) (.int .i64 0)) (fun _ _ e => e)).trans (s1 _ (q * 7 + 2) (.int .i64 0)) (fun _ _ e => e)).trans (s1 _ (q * 7 + 3) (.int .i64 (-200 - (q : Int)))) (fun _ _ e => e)).trans (s1 _ (q * 7 + 4) (.int .i64 0)) (fun _ _ e => e)).trans (s1 _ (q * 7 + 5) (.int .i64 0)) (fun _ _ e => e)).trans (s1 _ (q * 7 + 6) (.int .i64 0)) (fun _ _ e => e))
          have HS6 : Hid _ := hst.set (hc7.mono (fun j _ e => by rw [e]; rfl)) o6 HML.out
          have hw : IntKind.i64.wrap (-200 - (q : Int)) = -200 - (q : Int) := by rw [IntKind.wrap_i64]; omega
          clear hcell hdl o0 o1 o2 o3 o4 o5 o6 g0 g1 g2 g3 g4 g5 g6 s1 hc7 hst hx
          go_wp2_with fail
          go_roundw
          case rel => exact ⟨q + 1, by omega, by go_num, HS6.out⟩
          case measure => simp [intOf]; omega
        · obtain rfl : q = D.length := by omega
          rw [List.drop_length, List.append_nil] at hst
          have HS12 : Hid (DS L0 pb hb mb rb kb nk me N dg kn v ks (.slice da ents.length dc) (.slice ao5 (ents.length + 1) cap5) L A (ents ++ [(.slice lva D.length lvc, .slice wva D.length wvc)]) ((.slice la D.length lc, D.length, flatV (mkV (-1) D.length)) :: (.slice ma D.length mc, D.length, flatV (mkV (-200) D.length)) :: ((.slice wva D.length wvc, D.length, flatV D) :: (.slice lva D.length lvc, D.length, flatV D) :: (dg, nd, flatV (mkV (-1) nd)) :: R)) w wr) := hst.perm (List.Perm.swap _ _ _)
          clear hst HS11
          go_wp2_with fail
          go_loopw [8, 9] (fun s8 s9 wr => ∃ (q : Nat) (x : Value), x = s8 ∧ q ≤ 80 ∧ s9 = .int .i64 q ∧ DS L0 pb hb mb rb kb nk me N dg kn v ks (.slice da ents.length dc) (.slice ao5 (ents.length + 1) cap5) L A (ents ++ [(.slice lva D.length lvc, .slice wva D.length wvc)]) ((.slice la D.length lc, D.length, flatV (mkV (-1) D.length)) :: (.slice ma D.length mc, D.length, flatV (mkV (-200) D.length)) :: ((.slice wva D.length wvc, D.length, flatV D) :: (.slice lva D.length lvc, D.length, flatV D) :: (dg, nd, flatV (mkV (-1) nd)) :: R)) w wr ∧ GR L0 46 7 (.slice la D.length lc) D.length (flatV (mkV (-1) D.length)) ((.slice ma D.length mc, D.length, flatV (mkV (-200) D.length)) :: ((.slice wva D.length wvc, D.length, flatV D) :: (.slice lva D.length lvc, D.length, flatV D) :: (dg, nd, flatV (mkV (-1) nd)) :: R)) x (D.length + q) (flatV (mkV (-1) D.length ++ List.replicate q nn99)) wr ∧ (∀ g, x.ownBlock = some g → w.heap.size ≤ g)) (fun _ s9 _ => 80 - (intOf s9).toNat)
          case atStart => exact ⟨0, _, rfl, by omega, rfl, HS12.out, by simpa using GR.start HS12.out.rg, HLL.out⟩
          case round =>
            obtain ⟨q, x, rfl, hq, rfl, hst, hgr, hxl⟩ := hrel
            clear HS12
            obtain ⟨xa, xc, hxv, hq3⟩ := own_slice hgr.row
            subst hxv
            by_cases hlt : q < 80
            · obtain ⟨x', w', hrun, hgr2, hcx, hax⟩ := hgr.app 31 (viewV zed) 64 Try.underlying31 sizeV rfl (by decide) (by decide) #[.string ⟨#[]⟩, .int .i64 0, .int .i64 0, .int .i64 99, .int .i64 0, .int .i64 0, .int .i64 0] rfl one99 (by omega) (Nat.le_trans HL0.out hst.chg.size)
              have hst2 := hst.keep hcx (fun k cu T hB hT e => row_ne hgr.row hB hT e) (fun e => by obtain ⟨cu, hcu⟩ := ownsRow_type hgr.row e; exact hst.vw.map.ne_b (show Blk wr mb cu 46 from hcu) rfl) hxl hgr2.rg
              have HST2 : Hid _ := hst2
              have HG2 : Hid (GR L0 46 7 (.slice la D.length lc) D.length (flatV (mkV (-1) D.length)) ((.slice ma D.length mc, D.length, flatV (mkV (-200) D.length)) :: ((.slice wva D.length wvc, D.length, flatV D) :: (.slice lva D.length lvc, D.length, flatV D) :: (dg, nd, flatV (mkV (-1) nd)) :: R)) x' (D.length + (q + 1)) (flatV (mkV (-1) D.length ++ List.replicate (q + 1) nn99)) w') := show GR L0 46 7 (.slice la D.length lc) D.length (flatV (mkV (-1) D.length)) ((.slice ma D.length mc, D.length, flatV (mkV (-200) D.length)) :: ((.slice wva D.length wvc, D.length, flatV D) :: (.slice lva D.length lvc, D.length, flatV D) :: (dg, nd, flatV (mkV (-1) nd)) :: R)) x' (D.length + (q + 1)) (flatV (mkV (-1) D.length ++ List.replicate (q + 1) nn99)) w' from by
                rw [List.replicate_succ', ← List.append_assoc, flatV_append, show flatV [nn99] = nn99.cs from by simp [flatV]]
                exact hgr2
              have HXL : Hid (∀ g, x'.ownBlock = some g → w.heap.size ≤ g) := fun g hg => (hax g hg).elim (hxl g) (fun h => Nat.le_trans hst.chg.size h)
              have HRU : Hid _ := hrun
              clear hrun hgr2 hcx hax hst2 hst hgr hxl hq3
              go_wp2_with (at_builtin; refine wpList_runs rfl _ _ 31 rfl rfl rfl HRU.out ?_)
              go_roundw
              case rel => exact ⟨q + 1, _, rfl, by omega, by go_num, HST2.out, HG2.out, HXL.out⟩
              case measure => simp [intOf]; omega
            · obtain rfl : q = 80 := by omega
              have fz : wr.frozen? ⟨pb, 2, none⟩ = false := hst.box.frozen 2
              have p4 : wr.cell? ⟨pb, 2, none⟩ = some dg := hst.box.cell 2
              obtain ⟨Z9, hZ9⟩ : ∃ Z9, Z9 = wr.setCell ⟨pb, 2, none⟩ (.slice la D.length lc) := ⟨_, rfl⟩
              have hs13 := hst.setDg (.slice la D.length lc)
              rw [← hZ9] at hs13
              have HMB : Hid _ := HMK.out Z9 _ _ _ (.slice la D.length lc) D.length L0 hs13.box hs13.rg.head hs13.kr (by omega)
              have HFI : Hid (DS L0 pb hb mb rb kb nk me N (.slice la D.length lc) kn v ks (.slice da ents.length dc) (.slice ao5 (ents.length + 1) cap5) L A (ents ++ [(.slice lva D.length lvc, .slice wva D.length wvc)]) ((.slice la D.length lc, D.length, flatV (mkV (-1) D.length)) :: (.slice wva D.length wvc, D.length, flatV D) :: (.slice lva D.length lvc, D.length, flatV D) :: R) w Z9) := hs13.rows (hs13.rg.sub (by
                refine List.Sublist.cons_cons _ (List.Sublist.cons _ (List.Sublist.cons_cons _ (List.Sublist.cons_cons _ (List.Sublist.cons _ (List.Sublist.refl _))))))
              )
              have hw8 : IntKind.i64.wrap ((D.length : Int) + 80) = (D.length : Int) + 80 := by rw [IntKind.wrap_i64]; omega
              clear hs13 hst hgr hxl hq3
              go_upto_region 20 with fail
              rw [← hZ9]
              clear hZ9 fz p4
              go_wp2_with fail
              refine Calls.mono HMB.out ?_
              rintro e9 w14 ⟨rfl, hw14⟩
              replace hw14 := hw14.symm
              subst hw14
              go_wp2_with fail
              go_ret
              exact ⟨rfl, D, _, _, _, _, HDE.out, HFI.out, HLL.out, HWV.out, HLV.out⟩

end Go.Proofs.Ytifgmefdlmjocaa
