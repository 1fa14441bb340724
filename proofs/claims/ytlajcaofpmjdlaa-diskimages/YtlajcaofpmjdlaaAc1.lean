import Derived.Test.YtlajcaofpmjdlaaAc
import Derived.Deep.Cut
namespace Go.Proofs.Ytlajcaofpmjdlaa
open Go.RowKit Go.PlainAid
set_option linter.unusedVariables false
set_option linter.unusedSimpArgs false
section
variable {L pb p s rb : Nat} {S : SV} {lent fv lv : Value} {n : Nat} {x : DV} {r : RV} {R : List (Ent L)} {zs bs : List UInt8} {w w' : World}
theorem PA.lentRow (h : PA L pb p s rb S fv lv lent n zs x r R w) : w.ownsRow L 5 1 lent zs.length (zs.map B) := PH.getR (X := datE L (lent, zs)) h (by simp)
theorem PA.lentRow2 {g cc : Nat} (h : PA L pb p s rb S fv lv (.slice (some ⟨g, 0, none⟩) (bs.length + 40) cc) n (bs ++ mk40) x r R w) : w.ownsRow L 5 1 (.slice (some ⟨g, 0, none⟩) (bs.length + 40) cc) (bs.length + 40) ((bs ++ mk40).map B) := by
  have h1 := PA.lentRow h
  rwa [List.length_append, mk40_len] at h1
theorem PA.lentRow' {g cc : Nat} (h : PA L pb p s rb S fv lv (.slice (some ⟨g, 0, none⟩) (bs.length + 40) cc) n (bs ++ mk40) x r R w) (hk : ∀ k : Nat, w'.heap[k]? = w.heap[k]?) : w'.ownsRow L 5 1 (.slice (some ⟨g, 0, none⟩) (bs.length + 40) cc) (bs.length + 40) ((bs ++ mk40).map B) := PA.lentRow2 (w := w') (PH.keep0 h hk)
/-- The cell of the lent bytes. -/
theorem PH.setLent {dp rp v : Value} {R : List (Ent L)} (h : PH L pb S dp rp lent n R w) : PH L pb S dp rp v n R (w.setCell ⟨pb, 12, none⟩ v) := Held.boxSet h 12 v
theorem PH.c12 {dp rp : Value} {R : List (Ent L)} (h : PH L pb S dp rp lent n R w) : w.cell? ⟨pb, 12, none⟩ = some lent := (Held.boxB h).cell 12
/-- The lent bytes are others; the pair's cell still names the old ones. -/
theorem PA.lentX {v : Value} {ys : List UInt8} {A : Nat → Prop} (h : PA L pb p s rb S fv lv lent n zs x r R w) (hA : ∀ k, A k → lent.ownBlock = some k) (hc : Chg A w w') (hd : w'.ownsRow L 5 1 v ys.length (ys.map B)) (hu : ∀ k, v.ownBlock = some k → lent.ownBlock = some k ∨ w.heap.size ≤ k) : PH L pb S (.pointer (some ⟨p, 0, none⟩)) (.pointer (some ⟨rb, 0, none⟩)) lent n (dmE L p s x :: rdE L rb fv lv r :: datE L (v, ys) :: R) w' ∧ Below L w w' := by
  have hc' : Chg (fun k => (datE L (lent, zs)).bl k) w w' := hc.mono (fun k _ e => hA k e)
  exact ⟨PH.swapR (pre := [dmE L p s x, rdE L rb fv lv r]) (X := datE L (lent, zs)) (X' := datE L (v, ys)) h hc' hd hu, PH.belowR (pre := [dmE L p s x, rdE L rb fv lv r]) (X := datE L (lent, zs)) h hc'⟩
/-- The lent bytes lie apart from the disks. -/
theorem PA.lentNe (h : PA L pb p s rb S fv lv lent n zs x r R w) {k : Nat} (hk : lent.ownBlock = some k) : ¬ down p s k ∧ ¬ rown rb fv lv r k ∧ k ≠ pb := by
  have hd := h.dj
  have h1 := (List.pairwise_cons.1 hd).1 (datE L (lent, zs)) (by simp)
  have h2 := (List.pairwise_append.1 ((List.pairwise_append.1 (List.pairwise_cons.1 hd).2).2.1)).2.1
  have h3 := List.pairwise_cons.1 h2
  have h4 := h3.1 (datE L (lent, zs)) (by simp)
  have h5 := (List.pairwise_cons.1 h3.2).1 (datE L (lent, zs)) (by simp)
  exact ⟨fun e => h4 k e hk, fun e => h5 k e hk, fun e => h1 k e hk⟩
theorem By.chg0 {S : Nat → Prop} {w w' : World} {v : Value} {s : List UInt8} (h : By w v s) (hc : Chg S w w') (hS : ∀ ad k c, v = .slice (some ad) k c → 0 < k → ¬ S ad.block) : By w' v s := by
  obtain ⟨ao, k, c, h1, h2, h3, h4⟩ := h
  refine ⟨ao, k, c, h1, h2, h3, fun ad e j u hu => ?_⟩
  subst e
  have := h4 ad rfl j u hu
  have hlt := World.block_lt_of_cell? w _ this
  have hb : (ad.add j).block = ad.block := by unfold Addr.add; split <;> rfl
  have hk : 0 < k := by
    have := (List.getElem?_eq_some_iff.1 hu).1
    rw [List.length_map] at this
    omega
  rw [← this]
  refine World.cell?_of_block (w := w) ?_
  rw [hb] at hlt ⊢
  exact hc.block _ hlt (hS ad k c h1 hk)
set_option maxRecDepth 100000 in
set_option maxHeartbeats 3200000 in
theorem write_plain (i : Nat) {v : Value} {bs : List UInt8} (w : World) (h : DM L p s x w) (ho : x.off = false) (hi : i < x.n) (hl : bs.length = 512) (hb : By w v bs) (hv : ∀ ad k c, v = .slice (some ad) k c → ad.block ≠ p) (har : x.armed = false) (hw : x.writes ≤ 1000000) :
    Calls Try.prog 14 #[.pointer (some ⟨p, 0, none⟩), .int .i64 (i : Int), v] w fun e w' => e = .returned (.int .i64 0) ∧ DM L p s ((x.noted i).dec.put i 512 bs) w' ∧ Chg (down p s) w w' := by
  have hr0 : reachE x i = 0 := by unfold reachE; rw [if_neg (by simp [ho]), if_neg (by omega)]
  have hr := reach_any (i : Int) w h
  rw [hr0] at hr
  have HR : Hid _ := hr
  have HNT : Hid _ := note_any i w h hw
  obtain ⟨ao, k, c, hvv, hvl, _⟩ := id hb
  rw [hl] at hvl
  subst hvl
  have HBY : Hid (By w v bs) := hb
  have HBV : Hid _ := hv
  have HN : Hid (p ≠ s) := h.ne
  subst hvv
  clear h hr hr0 hb hv
  go_enter Try.func14, Try.ntmps14
  go_wp2_with fail
  refine Calls.mono HR.out ?_
  rintro e w1 ⟨rfl, hw1⟩
  replace hw1 := hw1.symm
  subst hw1
  clear HR
  go_wp2_with fail
  refine Calls.mono HNT.out ?_
  rintro e w1 ⟨rfl, h1, hc1⟩
  clear HNT
  have hd : (x.noted i).dec = x.noted i := by unfold DV.dec; rw [if_neg (by show ¬ x.armed = true; rw [har]; simp)]
  obtain ⟨R, hRb, hRs⟩ := h1.sec
  have hby1 : By w1 (.slice ao 512 c) bs := HBY.out.chg hc1 HBV.out
  obtain ⟨w2, hcp, hcc, hch⟩ := copy_by (o := i * 512) (dLen := 512) (dCap := 512) hRb hby1 (by rw [hRs.size]; show _ ≤ 512 * x.n; omega)
  have hmn : min bs.length 512 = 512 := by omega
  rw [hmn] at hcp hcc
  have h2 := h1.copied (bs := bs) (Nat.le_refl _) hi hRb hRs hcc hch
  rw [← hd] at h2
  have k0 : w1.cell? ⟨p, 0, none⟩ = some (.slice (some ⟨s, 0, none⟩) x.n x.n) := h1.k0
  have k2 : w1.cell? ⟨p, 2, none⟩ = some (.bool false) := by rw [h1.k2]; show some (Value.bool x.armed) = _; rw [har]
  have HF : Hid (DM L p s ((x.noted i).dec.put i 512 bs) w2 ∧ Chg (down p s) w w2) := ⟨h2, (hc1.mono (B := down p s) (fun j _ e => Or.inl e)).trans hch (fun j _ e => Or.inr e)⟩
  clear h1 hc1 hby1 hcc hch h2 hRb hRs hmn hd
  go_wp2_with fail
  go_ret
  exact ⟨rfl, HF.out.1, HF.out.2⟩
/-- The pair's own blocks are none of the rest's. -/
theorem PA.notR (h : PA L pb p s rb S fv lv lent n zs x r R w) {k : Nat} (hk : down p s k ∨ rown rb fv lv r k ∨ lent.ownBlock = some k ∨ k = pb) : L ≤ k ∧ ¬ has R k := by
  have hd := h.dj
  have h1 := (List.pairwise_cons.1 hd).1
  have h2 := (List.pairwise_append.1 ((List.pairwise_append.1 (List.pairwise_cons.1 hd).2).2.1)).2.1
  have h3 := List.pairwise_cons.1 h2
  have h5 := List.pairwise_cons.1 h3.2
  have h6 := List.pairwise_cons.1 h5.2
  rcases hk with e | e | e | e
  · exact ⟨((PA.dm h).lt e).1, fun ⟨y, hy, hb⟩ => h3.1 y (by simp [hy]) k e hb⟩
  · exact ⟨((PA.rm h).lt e).1, fun ⟨y, hy, hb⟩ => h5.1 y (by simp [hy]) k e hb⟩
  · exact ⟨((datE L (lent, zs)).lo w (PA.lentRow h) k e).1, fun ⟨y, hy, hb⟩ => h6.1 y (by simp [hy]) k e hb⟩
  · exact ⟨by rw [e]; exact (h.all _ (List.mem_cons_self ..)).2, fun ⟨y, hy, hb⟩ => h1 y (by simp [hy]) k e hb⟩
/-- What a write answers, by both. -/
theorem writes_both (oN : Int) {vo : Option Addr} {vn vc : Nat} (ha : AgD x r) (hx : r.log.length ≤ 1000) (hvn : bs.length = vn) : ∃ (code : Int) (y : DV), (∀ (w' : World) (ao : Option Addr) (c : Nat), DM L p s x w' → By w' (.slice ao vn c) bs → (∀ ad, ao = some ad → ad.block ≠ p) → Calls Try.prog 14 #[.pointer (some ⟨p, 0, none⟩), .int .i64 oN, .slice ao vn c] w' fun e w2 => e = .returned (.int .i64 code) ∧ DM L p s y w2 ∧ Chg (down p s) w' w2) ∧ (∀ (w' : World), RM L rb fv lv r w' → By w' (.slice vo vn vc) bs → Calls Try.prog 46 #[.pointer (some ⟨rb, 0, none⟩), .int .i64 oN, .slice vo vn vc] w' fun e w2 => ∃ lv' ry, e = .returned (.int .i64 code) ∧ (AgD y ry ∧ ry.log.length ≤ r.log.length + 1) ∧ RM L rb fv lv' ry w2 ∧ Chg (rown rb fv lv r) w' w2 ∧ ∀ k, rown rb fv lv' ry k → rown rb fv lv r k ∨ w'.heap.size ≤ k) := by
  have hwl : r.log.length = x.writes := ha.wr.symm
  by_cases hne : rwE r oN vn = 0
  · have hon : r.on = true := by
      cases hr : r.on with
      | true => rfl
      | false => unfold rwE at hne; rw [if_pos hr] at hne; exact absurd hne (by decide)
    have hoff : x.off = false := by rw [ha.off, hon]; rfl
    unfold rwE at hne
    rw [if_neg (by rw [hon]; decide)] at hne
    have hin : ¬ (oN < 0 ∨ (r.n : Int) ≤ oN) := fun h => by rw [if_pos h] at hne; exact absurd hne (by decide)
    rw [if_neg hin] at hne
    have h512 : vn = 512 := by
      by_cases h : vn = 512
      · exact h
      · rw [if_pos h] at hne; exact absurd hne (by decide)
    obtain ⟨i, hi⟩ : ∃ i : Nat, oN = (i : Int) := ⟨oN.toNat, by omega⟩
    subst hi
    have hin' : i < r.n := by omega
    have hixn : i < x.n := by rw [ha.n]; exact hin'
    have hbl : bs.length = 512 := by omega
    have hlf := ha.left
    by_cases hz : r.left = 0
    · refine ⟨200, ((x.noted i).put i x.torn bs).offed, ?_, ?_⟩
      · intro w' ao c hd hb hv
        refine write_torn i w' hd hoff hixn hbl hb (fun ad k c e => by cases e; exact hv ad rfl) ?_ ?_ ?_ (by omega)
        · rw [ha.arm, hz]; rfl
        · have := ha.whole (by omega); omega
        · rw [ha.torn (by omega)]; exact ha.tb
      · intro w' hd hb
        refine (rwrite_yes i w' hd hon hin' hbl hb (by omega) ha.left ha.tb).mono ?_
        rintro e w2 ⟨lv', v', he, h1, h2, h3⟩
        rw [if_pos hz] at he
        refine ⟨lv', _, he, ⟨ha.wrTorn i v' bs hz, ?_⟩, h1, h2, h3⟩
        unfold RV.wr
        rw [if_pos hz]
        simp
    · refine ⟨0, (x.noted i).dec.put i 512 bs, ?_, ?_⟩
      · intro w' ao c hd hb hv
        by_cases h0 : 0 ≤ r.left
        · have hw0 := ha.whole h0
          exact write_whole i w' hd hoff hixn hbl hb (fun ad k c e => by cases e; exact hv ad rfl) (fun _ => by omega) (by omega) (by omega)
        · exact write_plain i w' hd hoff hixn hbl hb (fun ad k c e => by cases e; exact hv ad rfl) (by rw [ha.arm]; exact decide_eq_false h0) (by omega)
      · intro w' hd hb
        refine (rwrite_yes i w' hd hon hin' hbl hb (by omega) ha.left ha.tb).mono ?_
        rintro e w2 ⟨lv', v', he, h1, h2, h3⟩
        rw [if_neg hz] at he
        refine ⟨lv', _, he, ⟨ha.wrWhole i v' bs hz, ?_⟩, h1, h2, h3⟩
        unfold RV.wr
        rw [if_neg hz]
        simp
  · refine ⟨rwE r oN vn, x, ?_, ?_⟩
    · intro w' ao c hd hb hv
      by_cases hr : reachE x oN = 0
      · have e1 : rwE r oN vn = 1 ∧ vn ≠ 512 ∧ x.off = false ∧ 0 ≤ oN ∧ oN < x.n := by
          have h1 := hr
          unfold reachE at h1
          have hof : x.off = false := by
            cases ho : x.off with
            | false => rfl
            | true => rw [if_pos ho] at h1; exact absurd h1 (by decide)
          rw [if_neg (by rw [hof]; decide)] at h1
          have hin : ¬ (oN < 0 ∨ (x.n : Int) ≤ oN) := fun h => by rw [if_pos h] at h1; exact absurd h1 (by decide)
          have hon : r.on = true := by
            have := ha.off
            rw [hof] at this
            cases hr : r.on with
            | true => rfl
            | false => rw [hr] at this; cases this
          have hn := ha.n
          have e2 : rwE r oN vn = if vn ≠ 512 then 1 else 0 := by
            unfold rwE
            rw [if_neg (by rw [hon]; decide), if_neg (by omega)]
          by_cases h5 : vn = 512
          · rw [e2, if_neg (by omega)] at hne; exact absurd rfl hne
          · exact ⟨by rw [e2, if_pos h5], h5, hof, by omega, by omega⟩
        obtain ⟨e1, e2, e3, e4, e5⟩ := e1
        rw [e1]
        obtain ⟨i, hi⟩ : ∃ i : Nat, oN = (i : Int) := ⟨oN.toNat, by omega⟩
        subst hi
        refine (write_arg i w' hd e3 (by omega) e2).mono ?_
        rintro e w2 ⟨rfl, rfl⟩
        exact ⟨rfl, hd, Chg.refl _ _⟩
      · have e1 : rwE r oN vn = reachE x oN := by
          have h1 := ha.reach oN
          rw [h1] at hr ⊢
          unfold rrE at hr ⊢
          unfold rwE
          by_cases h2 : r.on = false
          · rw [if_pos h2, if_pos h2]
          · rw [if_neg h2] at hr ⊢
            by_cases h3 : oN < 0 ∨ (r.n : Int) ≤ oN
            · rw [if_pos h3, if_neg h2, if_pos h3]
            · rw [if_neg h3] at hr; exact absurd rfl hr
        rw [e1]
        refine (write_no oN w' hd hr).mono ?_
        rintro e w2 ⟨rfl, rfl⟩
        exact ⟨rfl, hd, Chg.refl _ _⟩
    · intro w' hd hb
      refine (rwrite_no oN w' hd hne).mono ?_
      rintro e w2 ⟨rfl, rfl⟩
      exact ⟨lv, r, rfl, ⟨ha, Nat.le_succ _⟩, hd, Chg.refl _ _, fun k hk => Or.inl hk⟩
set_option maxRecDepth 100000 in
set_option maxHeartbeats 6400000 in
theorem acts_write (owho oN oM : Int) {vo : Option Addr} {vn vc : Nat} (w : World) (h : PA L pb p s rb S fv lv lent n zs x r R w) (ha : AgD x r) (hx : r.log.length ≤ 1000) (hb : By w (.slice vo vn vc) bs) (hbn : ∀ ad, vo = some ad → 0 < vn → ad.block < L ∨ has R ad.block) (hs : bs.length ≤ 1000000000) :
    Calls Try.prog 41 #[.pointer (some ⟨pb, 0, none⟩), .agg #[.int .i64 1, .int .i64 owho, .int .i64 oN, .int .i64 oM, .slice vo vn vc]] w (ActO L pb p s rb S n r R w) := by
  obtain ⟨ob, hob⟩ : ∃ b, b = w.heap.size := ⟨_, rfl⟩
  obtain ⟨X, hX⟩ : ∃ X, X = w.alloc (.cells #[.int .i64 1, .int .i64 owho, .int .i64 oN, .int .i64 oM, .slice vo vn vc] 58) := ⟨_, rfl⟩
  have hbX : Below w.heap.size w X := by rw [hX]; exact (Below.refl _ _).alloc (Nat.le_refl _) _
  have hBX : Blk X ob #[.int .i64 1, .int .i64 owho, .int .i64 oN, .int .i64 oM, .slice vo vn vc] 58 := by rw [hX, hob]; exact heap_alloc_new w _
  have hLw : L ≤ w.heap.size := PH.low h
  have hpX : PA L pb p s rb S fv lv lent n zs x r R X := PH.more h hbX
  have HBL : Hid (Below L w X) := hbX.mono hLw
  have hbyX : By X (.slice vo vn vc) bs := hb.keep hbX
  have hvn : bs.length = vn := by obtain ⟨_, _, _, e, e2, _⟩ := id hb; cases e; exact e2
  have HOB : Hid (∀ k, down p s k ∨ rown rb fv lv r k ∨ lent.ownBlock = some k ∨ k = pb → k ≠ ob) := fun k hk e => by
    have h1 : k < w.heap.size := by
      rcases hk with h2 | h2 | h2 | h2
      · exact ((PA.dm h).lt h2).2
      · exact ((PA.rm h).lt h2).2
      · exact ((datE L (lent, zs)).lo w (PA.lentRow h) k h2).2
      · rw [h2]; exact (Held.boxB h).lt
    omega
  have HBN : Hid (∀ A : Nat → Prop, (∀ k, A k → L ≤ k ∧ ¬ has R k) → ∀ ad k c, Value.slice vo vn vc = .slice (some ad) k c → 0 < k → ¬ A ad.block) := fun A hA ad k c e h0 hk => by
    cases e
    have h2 := hA _ hk
    rcases hbn ad rfl h0 with h1 | h1
    · omega
    · exact h2.2 h1
  obtain ⟨code, y, H1, H2⟩ := writes_both (L := L) (p := p) (s := s) (rb := rb) (fv := fv) (lv := lv) oN (vo := vo) (vc := vc) ha hx hvn
  have o0 : X.cell? ⟨ob, 0, none⟩ = some (.int .i64 1) := hBX.cell 0
  have HPX : Hid (PA L pb p s rb S fv lv lent n zs x r R X) := hpX
  have HBX : Hid (Blk X ob #[.int .i64 1, .int .i64 owho, .int .i64 oN, .int .i64 oM, .slice vo vn vc] 58) := hBX
  have HBY : Hid (By X (.slice vo vn vc) bs) := hbyX
  have HCX : Hid ((fun wz : World => wz.cell? ⟨pb, 12, none⟩ = some lent ∧ wz.cell? ⟨ob, 4, none⟩ = some (Value.slice vo vn vc)) X) := ⟨PH.c12 hpX, hBX.cell 4⟩
  have HA1 : Hid _ := H1
  have HA2 : Hid _ := H2
  have HVN : Hid (bs.length = vn ∧ bs.length ≤ 1000000000 ∧ L ≤ X.heap.size) := ⟨hvn, hs, PH.low hpX⟩
  clear h ha hx hb hbn hs hvn hLw hpX hbX hBX H1 H2 hbyX
  go_enter Try.func41, Try.ntmps41
  go_upto_region 1 with fail
  rw [← hX, ← hob]
  clear hX hob
  go_wp2_with fail
  rename_i K hK
  try rw [show ∀ a : Act, a.put none undef = a from fun _ => rfl]
  refine wp_region_mix (fun wz : World => wz.cell? ⟨pb, 12, none⟩ = some lent ∧ wz.cell? ⟨ob, 4, none⟩ = some (Value.slice vo vn vc)) (fun i => i == 6 || i == 99) 99 (by kernel_rfl) rfl (by kernel_rfl) (by kernel_rfl) (by kernel_rfl) ?_
  refine withFrP (N := 100) rfl ?_
  intro f0 F0 hff
  have ee0 : f0 0 = Value.pointer (some ⟨pb, 0, none⟩) := hff 0
  have ee3 : f0 3 = Value.pointer (some ⟨ob, 0, none⟩) := hff 3
  clear hff
  have HCC : (fun wz : World => wz.cell? ⟨pb, 12, none⟩ = some lent ∧ wz.cell? ⟨ob, 4, none⟩ = some (Value.slice vo vn vc)) (({ X with drawn := X.drawn + 1 } : World)) := HCX.out
  refine lyp F0 rfl HCC rfl (by omega) (wanted_none rfl) (v := Value.pointer (some ⟨pb, 0, none⟩)) (fun wr hwr => by simp only [execOp, (F0.eval 0 (by omega)).trans (show _ = Value.pointer (some ⟨pb, 0, none⟩) from by simp [upd, ee0, ee3])]; first | rfl | simp [go_sem]) fun F1 => ?_
  refine lyp F1 rfl HCC rfl (by omega) (wanted_none rfl) (v := Value.pointer (some ⟨pb, 0, none⟩)) (fun wr hwr => by simp only [execOp, (F1.eval 13 (by omega)).trans (show _ = Value.pointer (some ⟨pb, 0, none⟩) from by simp [upd, ee0, ee3])]; simp [go_sem]) fun F2 => ?_
  refine lyp F2 rfl HCC rfl (by omega) (wanted_none rfl) (v := Value.pointer (some ⟨pb, 12, none⟩)) (fun wr hwr => by simp only [execOp, (F2.eval 14 (by omega)).trans (show _ = Value.pointer (some ⟨pb, 0, none⟩) from by simp [upd, ee0, ee3])]; simp [go_sem]) fun F3 => ?_
  refine lyp F3 rfl HCC rfl (by omega) (wanted_none rfl) (v := lent) (fun wr hwr => by simp only [execOp, (F3.eval 15 (by omega)).trans (show _ = Value.pointer (some ⟨pb, 12, none⟩) from by simp [upd, ee0, ee3])]; simp [go_sem, hwr.1]) fun F4 => ?_
  refine lyp F4 rfl HCC rfl (by omega) (wanted_none rfl) (v := Value.pointer (some ⟨ob, 4, none⟩)) (fun wr hwr => by simp only [execOp, (F4.eval 3 (by omega)).trans (show _ = Value.pointer (some ⟨ob, 0, none⟩) from by simp [upd, ee0, ee3])]; simp [go_sem]) fun F5 => ?_
  refine lyp F5 rfl HCC rfl (by omega) (wanted_none rfl) (v := Value.slice vo vn vc) (fun wr hwr => by simp only [execOp, (F5.eval 17 (by omega)).trans (show _ = Value.pointer (some ⟨ob, 4, none⟩) from by simp [upd, ee0, ee3])]; simp [go_sem, hwr.2]) fun F6 => ?_
  refine lcp F6 rfl HCC rfl (by omega) (wanted_none rfl) (g := 45) (args := #[lent, Value.slice vo vn vc]) (by simp only [execOp, resolve, invoke, List.map_toArray, List.map_cons, List.map_nil, (F6.eval 16 (by omega)).trans (show _ = lent from by simp [upd, ee0, ee3]), (F6.eval 18 (by omega)).trans (show _ = Value.slice vo vn vc from by simp [upd, ee0, ee3])]; simp [go_sem, Act.eval]) (again_any (({ X with drawn := X.drawn + 1 } : World)) (PA.lentRow (PH.keep0 HPX.out (fun _ => rfl))) (By.chg0 HBY.out (⟨rfl, rfl, rfl, Nat.le_refl _, fun _ _ _ => rfl⟩ : Chg (fun _ => False) X (({ X with drawn := X.drawn + 1 } : World))) (fun _ _ _ _ _ e => e)) HVN.out.2.2 HVN.out.2.1) ?_
  rintro e9 w1 ⟨v5, rfl, hd1, hc1, hu1⟩
  obtain ⟨hp1, hb1⟩ := PA.lentX (w := ({ X with drawn := X.drawn + 1 } : World)) (ys := bs ++ mk40) (PH.keep0 HPX.out (fun _ => rfl)) (fun k e => e) hc1 (by rw [List.length_append, mk40_len]; exact hd1) hu1
  have hB1 : Blk w1 ob #[.int .i64 1, .int .i64 owho, .int .i64 oN, .int .i64 oM, .slice vo vn vc] 58 := hc1.blk (w := ({ X with drawn := X.drawn + 1 } : World)) HBX.out (fun e => HOB.out ob (Or.inr (Or.inr (Or.inl e))) rfl)
  have hY1 : By w1 (.slice vo vn vc) bs := By.chg0 HBY.out (⟨hc1.os, hc1.tape, hc1.output, hc1.size, hc1.block⟩ : Chg (fun k => lent.ownBlock = some k) X w1) (HBN.out _ (fun k e => PA.notR HPX.out (Or.inr (Or.inr (Or.inl e)))))
  refine ⟨_, rfl, fun F7 => ?_⟩
  have HC9 : (fun wz : World => wz.cell? ⟨pb, 12, none⟩ = some lent ∧ wz.cell? ⟨ob, 4, none⟩ = some (Value.slice vo vn vc)) w1 := ⟨PH.c12 hp1, hB1.cell 4⟩
  refine lyp F7 rfl HC9 rfl (by omega) (wanted_none rfl) (v := v5) (fun wr hwr => by simp only [execOp, (F7.eval 19 (by omega)).trans (show _ = v5 from by simp [upd, ee0, ee3])]; first | rfl | simp [go_sem]) fun F8 => ?_
  refine ⟨fun _ => HC9, ?_⟩
  refine hK _ _ ?_
  clear F0 F1 F2 F3 F4 F5 F6 F7 F8 ee0 ee3 HCC HC9
  simp only [Act.put, List.setIfInBounds_toArray, List.set_cons_succ, List.set_cons_zero]
  obtain ⟨g, cc, hv5, hcc⟩ : ∃ g cc, v5 = (Value.slice (some ⟨g, 0, none⟩) (bs.length + 40) cc) ∧ bs.length + 40 ≤ cc := by
    rcases id hd1.2 with ⟨e, e0⟩ | ⟨g2, c2, cur, e, _, _, hc, _⟩
    · omega
    · exact ⟨g2, c2, e, hc⟩
  subst hv5
  have hp1' := PH.setLent (v := (Value.slice (some ⟨g, 0, none⟩) (bs.length + 40) cc)) hp1
  have hB1' : Blk (w1.setCell ⟨pb, 12, none⟩ (Value.slice (some ⟨g, 0, none⟩) (bs.length + 40) cc)) ob #[.int .i64 1, .int .i64 owho, .int .i64 oN, .int .i64 oM, .slice vo vn vc] 58 := (setCell_chg _ _ _ _).blk hB1 (fun e => HOB.out pb (Or.inr (Or.inr (Or.inr rfl))) e.symm)
  have hset : Chg (fun k => k = pb) w1 (w1.setCell ⟨pb, 12, none⟩ (Value.slice (some ⟨g, 0, none⟩) (bs.length + 40) cc)) := setCell_chg _ _ _ _
  have hY1' : By (w1.setCell ⟨pb, 12, none⟩ (Value.slice (some ⟨g, 0, none⟩) (bs.length + 40) cc)) (.slice vo vn vc) bs := hY1.chg0 hset (HBN.out (fun k => k = pb) (fun k e => PA.notR hp1' (Or.inr (Or.inr (Or.inr e)))))
  have c12 := PH.c12 hp1
  have f12 := (Held.boxB hp1).frozen 12
  have HB1 : Hid (Below L w (w1.setCell ⟨pb, 12, none⟩ (Value.slice (some ⟨g, 0, none⟩) (bs.length + 40) cc))) := (HBL.out.trans ⟨hb1.os, hb1.tape, hb1.output, hb1.size, hb1.block⟩).trans (Held.below2 hp1 (PH.low hp1) hset (fun k e => ⟨_, List.mem_cons_self .., e⟩))
  have HP1 : Hid (PA L pb p s rb S fv lv (Value.slice (some ⟨g, 0, none⟩) (bs.length + 40) cc) n (bs ++ mk40) x r R (w1.setCell ⟨pb, 12, none⟩ (Value.slice (some ⟨g, 0, none⟩) (bs.length + 40) cc)) ∧ Blk (w1.setCell ⟨pb, 12, none⟩ (Value.slice (some ⟨g, 0, none⟩) (bs.length + 40) cc)) ob #[.int .i64 1, .int .i64 owho, .int .i64 oN, .int .i64 oM, .slice vo vn vc] 58 ∧ By (w1.setCell ⟨pb, 12, none⟩ (Value.slice (some ⟨g, 0, none⟩) (bs.length + 40) cc)) (.slice vo vn vc) bs) := ⟨hp1', hB1', hY1'⟩
  have HCC2 : Hid (vn ≤ cc) := by have := HVN.out.1; have h2 : vn ≤ cc := by omega
                                  exact h2
  clear hd1 hc1 hu1 hp1 hb1 hB1 hY1 hp1' hB1' hY1' hset hcc o0 HCX HPX HBX HBY HBL
  go_upto_region 5 with fail
  obtain ⟨X1, hX1⟩ : ∃ X1, X1 = w1.setCell ⟨pb, 12, none⟩ (Value.slice (some ⟨g, 0, none⟩) (bs.length + 40) cc) := ⟨_, rfl⟩
  rw [← hX1] at HP1 HB1 ⊢
  clear hX1 c12 f12
  have HCX : Hid ((fun wz : World => wz.cell? ⟨pb, 0, none⟩ = some (Value.pointer (some ⟨p, 0, none⟩)) ∧ wz.cell? ⟨pb, 1, none⟩ = some (Value.pointer (some ⟨rb, 0, none⟩)) ∧ wz.cell? ⟨ob, 2, none⟩ = some (Value.int .i64 oN) ∧ wz.cell? ⟨ob, 4, none⟩ = some (Value.slice vo vn vc)) X1) := ⟨(PH.c0 HP1.out.1).1, (PH.c0 HP1.out.1).2, HP1.out.2.1.cell 2, HP1.out.2.1.cell 4⟩
  go_wp2_with fail
  rename_i K hK
  try rw [show ∀ a : Act, a.put none undef = a from fun _ => rfl]
  refine wp_region_mix (fun wz : World => wz.cell? ⟨pb, 0, none⟩ = some (Value.pointer (some ⟨p, 0, none⟩)) ∧ wz.cell? ⟨pb, 1, none⟩ = some (Value.pointer (some ⟨rb, 0, none⟩)) ∧ wz.cell? ⟨ob, 2, none⟩ = some (Value.int .i64 oN) ∧ wz.cell? ⟨ob, 4, none⟩ = some (Value.slice vo vn vc)) (fun i => i == 11 || i == 99) 99 (by kernel_rfl) rfl (by kernel_rfl) (by kernel_rfl) (by kernel_rfl) ?_
  refine withFrP (N := 100) rfl ?_
  intro f0 F0 hff
  have ee0 : f0 0 = Value.pointer (some ⟨pb, 0, none⟩) := hff 0
  have ee3 : f0 3 = Value.pointer (some ⟨ob, 0, none⟩) := hff 3
  have ee5 : f0 5 = Value.slice (some ⟨g, 0, none⟩) (bs.length + 40) cc := hff 5
  clear hff
  have HCC : (fun wz : World => wz.cell? ⟨pb, 0, none⟩ = some (Value.pointer (some ⟨p, 0, none⟩)) ∧ wz.cell? ⟨pb, 1, none⟩ = some (Value.pointer (some ⟨rb, 0, none⟩)) ∧ wz.cell? ⟨ob, 2, none⟩ = some (Value.int .i64 oN) ∧ wz.cell? ⟨ob, 4, none⟩ = some (Value.slice vo vn vc)) (({ X1 with drawn := X1.drawn + 1 } : World)) := HCX.out
  refine lyp F0 rfl HCC rfl (by omega) (wanted_none rfl) (v := Value.pointer (some ⟨pb, 0, none⟩)) (fun wr hwr => by simp only [execOp, (F0.eval 0 (by omega)).trans (show _ = Value.pointer (some ⟨pb, 0, none⟩) from by simp [upd, ee0, ee3, ee5])]; first | rfl | simp [go_sem]) fun F1 => ?_
  refine lyp F1 rfl HCC rfl (by omega) (wanted_none rfl) (v := Value.pointer (some ⟨pb, 0, none⟩)) (fun wr hwr => by simp only [execOp, (F1.eval 24 (by omega)).trans (show _ = Value.pointer (some ⟨pb, 0, none⟩) from by simp [upd, ee0, ee3, ee5])]; simp [go_sem]) fun F2 => ?_
  refine lyp F2 rfl HCC rfl (by omega) (wanted_none rfl) (v := Value.pointer (some ⟨pb, 0, none⟩)) (fun wr hwr => by simp only [execOp, (F2.eval 25 (by omega)).trans (show _ = Value.pointer (some ⟨pb, 0, none⟩) from by simp [upd, ee0, ee3, ee5])]; simp [go_sem]) fun F3 => ?_
  refine lyp F3 rfl HCC rfl (by omega) (wanted_none rfl) (v := Value.pointer (some ⟨p, 0, none⟩)) (fun wr hwr => by simp only [execOp, (F3.eval 26 (by omega)).trans (show _ = Value.pointer (some ⟨pb, 0, none⟩) from by simp [upd, ee0, ee3, ee5])]; simp [go_sem, hwr.1]) fun F4 => ?_
  refine lyp F4 rfl HCC rfl (by omega) (wanted_none rfl) (v := Value.pointer (some ⟨ob, 2, none⟩)) (fun wr hwr => by simp only [execOp, (F4.eval 3 (by omega)).trans (show _ = Value.pointer (some ⟨ob, 0, none⟩) from by simp [upd, ee0, ee3, ee5])]; simp [go_sem]) fun F5 => ?_
  refine lyp F5 rfl HCC rfl (by omega) (wanted_none rfl) (v := Value.int .i64 oN) (fun wr hwr => by simp only [execOp, (F5.eval 28 (by omega)).trans (show _ = Value.pointer (some ⟨ob, 2, none⟩) from by simp [upd, ee0, ee3, ee5])]; simp [go_sem, hwr.2.2.1]) fun F6 => ?_
  refine lyp F6 rfl HCC rfl (by omega) (wanted_none rfl) (v := Value.slice (some ⟨g, 0, none⟩) (bs.length + 40) cc) (fun wr hwr => by simp only [execOp, (F6.eval 5 (by omega)).trans (show _ = Value.slice (some ⟨g, 0, none⟩) (bs.length + 40) cc from by simp [upd, ee0, ee3, ee5])]; first | rfl | simp [go_sem]) fun F7 => ?_
  refine lyp F7 rfl HCC rfl (by omega) (wanted_none rfl) (v := Value.pointer (some ⟨ob, 4, none⟩)) (fun wr hwr => by simp only [execOp, (F7.eval 3 (by omega)).trans (show _ = Value.pointer (some ⟨ob, 0, none⟩) from by simp [upd, ee0, ee3, ee5])]; simp [go_sem]) fun F8 => ?_
  refine lyp F8 rfl HCC rfl (by omega) (wanted_none rfl) (v := Value.slice vo vn vc) (fun wr hwr => by simp only [execOp, (F8.eval 31 (by omega)).trans (show _ = Value.pointer (some ⟨ob, 4, none⟩) from by simp [upd, ee0, ee3, ee5])]; simp [go_sem, hwr.2.2.2]) fun F9 => ?_
  refine lyp F9 rfl HCC rfl (by omega) (wanted_none rfl) (v := Value.int .i64 (vn : Nat)) (fun wr hwr => by simp only [execOp, resolve, invoke, builtin, List.map_toArray, List.map_cons, List.map_nil, (F9.eval 32 (by omega)).trans (show _ = Value.slice vo vn vc from by simp [upd, ee0, ee3, ee5])]; simp [go_sem, Builtin.len_, Builtin.lenOf]) fun F10 => ?_
  refine lyp F10 rfl HCC rfl (by omega) (wanted_none rfl) (v := Value.slice (some ⟨g, 0, none⟩) vn cc) (fun wr hwr => by simp only [execOp, Option.map_some, Option.map_none, (F10.eval 30 (by omega)).trans (show _ = Value.slice (some ⟨g, 0, none⟩) (bs.length + 40) cc from by simp [upd, ee0, ee3, ee5]), (F10.eval 33 (by omega)).trans (show _ = Value.int .i64 (vn : Nat) from by simp [upd, ee0, ee3, ee5])]; simp only [Sem.run_bind, slice30h g 0 (bs.length + 40) cc vn HCC2.out wr, Result.andThen_ok, Sem.run_pure]; try rfl) fun F11 => ?_
  refine lcp F11 rfl HCC rfl (by omega) (wanted_none rfl) (g := 14) (args := #[Value.pointer (some ⟨p, 0, none⟩), Value.int .i64 oN, Value.slice (some ⟨g, 0, none⟩) vn cc]) (by simp only [execOp, resolve, invoke, List.map_toArray, List.map_cons, List.map_nil, (F11.eval 27 (by omega)).trans (show _ = Value.pointer (some ⟨p, 0, none⟩) from by simp [upd, ee0, ee3, ee5]), (F11.eval 29 (by omega)).trans (show _ = Value.int .i64 oN from by simp [upd, ee0, ee3, ee5]), (F11.eval 34 (by omega)).trans (show _ = Value.slice (some ⟨g, 0, none⟩) vn cc from by simp [upd, ee0, ee3, ee5])]; simp [go_sem, Act.eval]) (HA1.out (({ X1 with drawn := X1.drawn + 1 } : World)) (some ⟨g, 0, none⟩) cc (PA.dm (PH.keep0 HP1.out.1 (fun _ => rfl))) (own_front (w := (({ X1 with drawn := X1.drawn + 1 } : World))) (PA.lentRow' HP1.out.1 (fun _ => rfl)) HVN.out.1) (fun ad e hk => by cases e; exact (PA.lentNe HP1.out.1 (k := g) rfl).1 (Or.inl hk))) ?_
  rintro e9 w2 ⟨rfl, hd2, hc2⟩
  obtain ⟨hp2, hb2⟩ := PA.setD (w := ({ X1 with drawn := X1.drawn + 1 } : World)) (PH.keep0 HP1.out.1 (fun _ => rfl)) (fun k e => e) hc2 hd2
  have hB2 : Blk w2 ob #[.int .i64 1, .int .i64 owho, .int .i64 oN, .int .i64 oM, .slice vo vn vc] 58 := hc2.blk (w := ({ X1 with drawn := X1.drawn + 1 } : World)) HP1.out.2.1 (fun e => HOB.out ob (Or.inl e) rfl)
  have hY2 : By w2 (.slice vo vn vc) bs := By.chg0 HP1.out.2.2 (⟨hc2.os, hc2.tape, hc2.output, hc2.size, hc2.block⟩ : Chg (down p s) X1 w2) (HBN.out _ (fun k e => PA.notR HP1.out.1 (Or.inl e)))
  refine ⟨_, rfl, fun F12 => ?_⟩
  have HC9 : (fun wz : World => wz.cell? ⟨pb, 0, none⟩ = some (Value.pointer (some ⟨p, 0, none⟩)) ∧ wz.cell? ⟨pb, 1, none⟩ = some (Value.pointer (some ⟨rb, 0, none⟩)) ∧ wz.cell? ⟨ob, 2, none⟩ = some (Value.int .i64 oN) ∧ wz.cell? ⟨ob, 4, none⟩ = some (Value.slice vo vn vc)) w2 := ⟨(PH.c0 hp2).1, (PH.c0 hp2).2, hB2.cell 2, hB2.cell 4⟩
  refine lyp F12 rfl HC9 rfl (by omega) (wanted_none rfl) (v := Value.int .i64 code) (fun wr hwr => by simp only [execOp, (F12.eval 35 (by omega)).trans (show _ = Value.int .i64 code from by simp [upd, ee0, ee3, ee5])]; first | rfl | simp [go_sem]) fun F13 => ?_
  refine ⟨fun _ => HC9, ?_⟩
  refine hK _ _ ?_
  clear F0 F1 F2 F3 F4 F5 F6 F7 F8 F9 F10 F11 F12 F13 ee0 ee3 ee5 HCC HC9
  simp only [Act.put, List.setIfInBounds_toArray, List.set_cons_succ, List.set_cons_zero]
  have HP2 : Hid (PA L pb p s rb S fv lv (Value.slice (some ⟨g, 0, none⟩) (bs.length + 40) cc) n (bs ++ mk40) y r R w2 ∧ Blk w2 ob #[.int .i64 1, .int .i64 owho, .int .i64 oN, .int .i64 oM, .slice vo vn vc] 58 ∧ By w2 (.slice vo vn vc) bs) := ⟨hp2, hB2, hY2⟩
  have HB2 : Hid (Below L w w2) := HB1.out.trans ⟨hb2.os, hb2.tape, hb2.output, hb2.size, hb2.block⟩
  clear HP1 HB1 HCX hd2 hc2 hp2 hb2 hB2 hY2
  have HCX : Hid ((fun wz : World => wz.cell? ⟨pb, 0, none⟩ = some (Value.pointer (some ⟨p, 0, none⟩)) ∧ wz.cell? ⟨pb, 1, none⟩ = some (Value.pointer (some ⟨rb, 0, none⟩)) ∧ wz.cell? ⟨ob, 2, none⟩ = some (Value.int .i64 oN) ∧ wz.cell? ⟨ob, 4, none⟩ = some (Value.slice vo vn vc)) w2) := ⟨(PH.c0 HP2.out.1).1, (PH.c0 HP2.out.1).2, HP2.out.2.1.cell 2, HP2.out.2.1.cell 4⟩
  go_wp2_with fail
  rename_i K hK
  try rw [show ∀ a : Act, a.put none undef = a from fun _ => rfl]
  refine wp_region_mix (fun wz : World => wz.cell? ⟨pb, 0, none⟩ = some (Value.pointer (some ⟨p, 0, none⟩)) ∧ wz.cell? ⟨pb, 1, none⟩ = some (Value.pointer (some ⟨rb, 0, none⟩)) ∧ wz.cell? ⟨ob, 2, none⟩ = some (Value.int .i64 oN) ∧ wz.cell? ⟨ob, 4, none⟩ = some (Value.slice vo vn vc)) (fun i => i == 8 || i == 99) 99 (by kernel_rfl) rfl (by kernel_rfl) (by kernel_rfl) (by kernel_rfl) ?_
  refine withFrP (N := 100) rfl ?_
  intro f0 F0 hff
  have ee0 : f0 0 = Value.pointer (some ⟨pb, 0, none⟩) := hff 0
  have ee3 : f0 3 = Value.pointer (some ⟨ob, 0, none⟩) := hff 3
  clear hff
  have HCC : (fun wz : World => wz.cell? ⟨pb, 0, none⟩ = some (Value.pointer (some ⟨p, 0, none⟩)) ∧ wz.cell? ⟨pb, 1, none⟩ = some (Value.pointer (some ⟨rb, 0, none⟩)) ∧ wz.cell? ⟨ob, 2, none⟩ = some (Value.int .i64 oN) ∧ wz.cell? ⟨ob, 4, none⟩ = some (Value.slice vo vn vc)) (({ w2 with drawn := w2.drawn + 1 } : World)) := HCX.out
  refine lyp F0 rfl HCC rfl (by omega) (wanted_none rfl) (v := Value.pointer (some ⟨pb, 0, none⟩)) (fun wr hwr => by simp only [execOp, (F0.eval 0 (by omega)).trans (show _ = Value.pointer (some ⟨pb, 0, none⟩) from by simp [upd, ee0, ee3])]; first | rfl | simp [go_sem]) fun F1 => ?_
  refine lyp F1 rfl HCC rfl (by omega) (wanted_none rfl) (v := Value.pointer (some ⟨pb, 0, none⟩)) (fun wr hwr => by simp only [execOp, (F1.eval 36 (by omega)).trans (show _ = Value.pointer (some ⟨pb, 0, none⟩) from by simp [upd, ee0, ee3])]; simp [go_sem]) fun F2 => ?_
  refine lyp F2 rfl HCC rfl (by omega) (wanted_none rfl) (v := Value.pointer (some ⟨pb, 1, none⟩)) (fun wr hwr => by simp only [execOp, (F2.eval 37 (by omega)).trans (show _ = Value.pointer (some ⟨pb, 0, none⟩) from by simp [upd, ee0, ee3])]; simp [go_sem]) fun F3 => ?_
  refine lyp F3 rfl HCC rfl (by omega) (wanted_none rfl) (v := Value.pointer (some ⟨rb, 0, none⟩)) (fun wr hwr => by simp only [execOp, (F3.eval 38 (by omega)).trans (show _ = Value.pointer (some ⟨pb, 1, none⟩) from by simp [upd, ee0, ee3])]; simp [go_sem, hwr.2.1]) fun F4 => ?_
  refine lyp F4 rfl HCC rfl (by omega) (wanted_none rfl) (v := Value.pointer (some ⟨ob, 2, none⟩)) (fun wr hwr => by simp only [execOp, (F4.eval 3 (by omega)).trans (show _ = Value.pointer (some ⟨ob, 0, none⟩) from by simp [upd, ee0, ee3])]; simp [go_sem]) fun F5 => ?_
  refine lyp F5 rfl HCC rfl (by omega) (wanted_none rfl) (v := Value.int .i64 oN) (fun wr hwr => by simp only [execOp, (F5.eval 40 (by omega)).trans (show _ = Value.pointer (some ⟨ob, 2, none⟩) from by simp [upd, ee0, ee3])]; simp [go_sem, hwr.2.2.1]) fun F6 => ?_
  refine lyp F6 rfl HCC rfl (by omega) (wanted_none rfl) (v := Value.pointer (some ⟨ob, 4, none⟩)) (fun wr hwr => by simp only [execOp, (F6.eval 3 (by omega)).trans (show _ = Value.pointer (some ⟨ob, 0, none⟩) from by simp [upd, ee0, ee3])]; simp [go_sem]) fun F7 => ?_
  refine lyp F7 rfl HCC rfl (by omega) (wanted_none rfl) (v := Value.slice vo vn vc) (fun wr hwr => by simp only [execOp, (F7.eval 42 (by omega)).trans (show _ = Value.pointer (some ⟨ob, 4, none⟩) from by simp [upd, ee0, ee3])]; simp [go_sem, hwr.2.2.2]) fun F8 => ?_
  refine lcp F8 rfl HCC rfl (by omega) (wanted_none rfl) (g := 46) (args := #[Value.pointer (some ⟨rb, 0, none⟩), Value.int .i64 oN, Value.slice vo vn vc]) (by simp only [execOp, resolve, invoke, List.map_toArray, List.map_cons, List.map_nil, (F8.eval 39 (by omega)).trans (show _ = Value.pointer (some ⟨rb, 0, none⟩) from by simp [upd, ee0, ee3]), (F8.eval 41 (by omega)).trans (show _ = Value.int .i64 oN from by simp [upd, ee0, ee3]), (F8.eval 43 (by omega)).trans (show _ = Value.slice vo vn vc from by simp [upd, ee0, ee3])]; simp [go_sem, Act.eval]) (HA2.out (({ w2 with drawn := w2.drawn + 1 } : World)) (PA.rm (PH.keep0 HP2.out.1 (fun _ => rfl))) (By.chg0 HP2.out.2.2 (⟨rfl, rfl, rfl, Nat.le_refl _, fun _ _ _ => rfl⟩ : Chg (fun _ => False) w2 (({ w2 with drawn := w2.drawn + 1 } : World))) (fun _ _ _ _ _ e => e))) ?_
  rintro e9 w3 ⟨lv3, ry, rfl, hag3, hd3, hc3, hu3⟩
  obtain ⟨hp3, hb3⟩ := PA.setR (w := ({ w2 with drawn := w2.drawn + 1 } : World)) (PH.keep0 HP2.out.1 (fun _ => rfl)) (fun k e => e) hc3 hd3 hu3
  have hB3 : Blk w3 ob #[.int .i64 1, .int .i64 owho, .int .i64 oN, .int .i64 oM, .slice vo vn vc] 58 := hc3.blk (w := ({ w2 with drawn := w2.drawn + 1 } : World)) HP2.out.2.1 (fun e => HOB.out ob (Or.inr (Or.inl e)) rfl)
  have hY3 : By w3 (.slice vo vn vc) bs := By.chg0 HP2.out.2.2 (⟨hc3.os, hc3.tape, hc3.output, hc3.size, hc3.block⟩ : Chg (rown rb fv lv r) w2 w3) (HBN.out _ (fun k e => PA.notR HP2.out.1 (Or.inr (Or.inl e))))
  refine ⟨_, rfl, fun F9 => ?_⟩
  have HC9 : (fun wz : World => wz.cell? ⟨pb, 0, none⟩ = some (Value.pointer (some ⟨p, 0, none⟩)) ∧ wz.cell? ⟨pb, 1, none⟩ = some (Value.pointer (some ⟨rb, 0, none⟩)) ∧ wz.cell? ⟨ob, 2, none⟩ = some (Value.int .i64 oN) ∧ wz.cell? ⟨ob, 4, none⟩ = some (Value.slice vo vn vc)) w3 := ⟨(PH.c0 hp3).1, (PH.c0 hp3).2, hB3.cell 2, hB3.cell 4⟩
  refine lyp F9 rfl HC9 rfl (by omega) (wanted_none rfl) (v := Value.int .i64 code) (fun wr hwr => by simp only [execOp, (F9.eval 44 (by omega)).trans (show _ = Value.int .i64 code from by simp [upd, ee0, ee3])]; first | rfl | simp [go_sem]) fun F10 => ?_
  refine ⟨fun _ => HC9, ?_⟩
  refine hK _ _ ?_
  clear F0 F1 F2 F3 F4 F5 F6 F7 F8 F9 F10 ee0 ee3 HCC HC9
  simp only [Act.put, List.setIfInBounds_toArray, List.set_cons_succ, List.set_cons_zero]
  have o4 := hB3.cell 4
  have HK : Hid _ := kept_yes w3 (PA.lentRow2 hp3) hY3 HVN.out.2.1
  have HP3 : Hid (PA L pb p s rb S fv lv3 (Value.slice (some ⟨g, 0, none⟩) (bs.length + 40) cc) n (bs ++ mk40) y ry R w3) := hp3
  have HB3 : Hid (Below L w w3) := HB2.out.trans ⟨hb3.os, hb3.tape, hb3.output, hb3.size, hb3.block⟩
  have HAG : Hid (AgD y ry ∧ ry.log.length ≤ r.log.length + 1) := hag3
  have HN := num_any code
  have hce : (code == code) = true := by simp
  clear HP2 HB2 HCX hd3 hc3 hp3 hb3 hB3 hY3 hag3 hu3
  go_wp2_with fail
  refine Calls.mono HK.out ?_
  rintro e w4 ⟨rfl, ⟨ys, hr4⟩, hc4⟩
  clear HK o4
  have hyl : ys.length = bs.length + 40 := by have := hr4.1; simpa using this
  obtain ⟨hp4, hb4⟩ := PA.lentX (ys := ys) HP3.out (A := fun k => k = g) (fun k e => by rw [e]; rfl) hc4 (by rw [hyl]; exact hr4) (fun k hk => Or.inl hk)
  have HF : Hid (PA L pb p s rb S fv lv3 (Value.slice (some ⟨g, 0, none⟩) (bs.length + 40) cc) n ys y ry R w4 ∧ Below L w w4) := ⟨hp4, HB3.out.trans hb4⟩
  clear HP3 HB3 hr4 hc4 hyl hp4 hb4
  go_wp2_with fail
  refine Calls.mono (HN w4) ?_
  rintro e w5 ⟨rfl, hw5⟩
  subst hw5
  go_wp2_with fail
  go_ret
  exact ⟨rfl, fv, lv3, _, ys, y, ry, HAG.out.1, HAG.out.2, HF.out.1, HF.out.2⟩
end
end Go.Proofs.Ytlajcaofpmjdlaa
