import Derived.Test.YtlajcaofpmjdlaaDk5
namespace Go.Proofs.Ytlajcaofpmjdlaa
open Go.RowKit Go.PlainAid
set_option linter.unusedVariables false
set_option linter.unusedSimpArgs false
section
variable {L p s : Nat} {x : DV}
set_option maxRecDepth 100000 in
set_option maxHeartbeats 800000 in
theorem reads_any (i : Nat) {v : Value} {bs : List UInt8} (w : World) (h : DM L p s x w) (ho : x.off = false) (hi : i < x.n) (hb : By w v bs) : Calls Try.prog 19 #[.pointer (some ⟨p, 0, none⟩), .int .i64 (i : Int), v] w fun e w' => e = .returned (.bool (secL x.b i == bs)) ∧ Below w.heap.size w w' := by
  have HR : Hid _ := read_yes i w h ho hi
  have HB : Hid (By w v bs) := hb
  obtain ⟨ao, k, c, hv, _⟩ := hb
  subst hv
  clear h
  go_enter Try.func19, Try.ntmps19
  go_wp2_with fail
  refine Calls.mono HR.out ?_
  rintro e w1 ⟨v1, rfl, hr1, hb1⟩
  have hs := same_any w1 (own_by (by rw [secL_len]; exact hr1)) (HB.out.keep hb1)
  obtain ⟨vo, vc, hv1, _⟩ := own_slice hr1
  subst hv1
  have HS : Hid _ := hs
  have HB1 : Hid _ := hb1
  have hn := num_any 0 w1
  have HN : Hid _ := hn
  clear HR hr1 hb1 hs hn
  go_wp2_with fail
  refine Calls.mono HN.out ?_
  rintro e w2 ⟨rfl, hw2⟩
  replace hw2 := hw2.symm
  subst hw2
  clear HN
  go_wp2_with fail
  refine Calls.mono HS.out ?_
  rintro e w2 ⟨rfl, hw2⟩
  replace hw2 := hw2.symm
  subst hw2
  clear HS
  go_wp2_with fail
  go_ret
  exact ⟨rfl, HB1.out⟩
end
/-- The row that the caller holds on to, while bytes are laid behind it. -/
theorem own_setAbove {w : World} {L L' n g cap k m c : Nat} {zs ys : List UInt8} (h : w.ownsRow L 5 1 (.slice (some ⟨g, 0, none⟩) n cap) n (zs.map B)) (hk : n ≤ k) (z : UInt8) : (w.setCell ⟨g, k, none⟩ (B z)).ownsRow L 5 1 (.slice (some ⟨g, 0, none⟩) n cap) n (zs.map B) := by
  have := (own_setB (k := k) h z).1
  rwa [List.set_eq_of_length_le (by have := h.1; simp at this; omega)] at this
theorem app_bytesK {w : World} {base k : Nat} {v : Value} {xs : List Value} (hown : w.ownsRow base 5 1 v k xs) (hbase : base ≤ w.heap.size) (ps : List UInt8) (hl : k + ps.length ≤ 140737488355328) :
    ∃ v' w', (∀ ty, (Builtin.append_ #[30, 30] ty #[v, .slice (some ⟨w.heap.size, 0, none⟩) ps.length ps.length]).run Try.prog (w.alloc (.cells (ps.map B).toArray 5)) = .ok v' w') ∧ w'.ownsRow base 5 1 v' (k + ps.length) (xs ++ ps.map B) ∧ Grew w w' v v' ∧
      ∀ (d : Value) (n base' : Nat) (zs : List Value), n ≤ k → d.ownBlock = v.ownBlock → w.ownsRow base' 5 1 d n zs → w'.ownsRow base' 5 1 d n zs := by
  obtain ⟨v', w', a, b, c, d⟩ := app_any (w := w.alloc (.cells (ps.map B).toArray 5)) 30 5 (.int .u8 0) 1 1 Try.underlying30 info5' rfl (by decide) (by decide) (hown.alloc _) ⟨w.heap.size, 0, none⟩ ps.length ps.length (ps.map B) (by simp) (fun j u hu => by
    have hB : Blk (w.alloc (.cells (ps.map B).toArray 5)) w.heap.size (ps.map B).toArray 5 := heap_alloc_new w _
    rw [addr_add, Nat.zero_add, hB.cell j]
    simpa using hu) (oneB ps) (by omega) (by rw [World.size_alloc]; omega) 30
  exact ⟨v', w', fun ty => a, b, c.ofAlloc, fun dd n base' zs h1 h2 h3 => d dd n base' zs h1 h2 (h3.alloc _)⟩
theorem own_keep2 {w w' : World} {L n : Nat} {v : Value} {xs : List Value} {S : Nat → Prop} {e : TypeId} (h : w.ownsRow L e 1 v n xs) (hc : Chg S w w') (hS : ∀ g, v.ownBlock = some g → ¬ S g) : w'.ownsRow L e 1 v n xs := ownsRow_same h (fun g hg => hc.block g (ownsRow_lt h hg).2 (hS g hg))
set_option maxRecDepth 100000 in
set_option maxHeartbeats 3200000 in
/-- An answer is the caller's: it is written full, and appended to. -/
theorem spoil_any {L n : Nat} {v : Value} {zs : List UInt8} (w : World) (h : w.ownsRow L 5 1 v n (zs.map B)) (hL : L ≤ w.heap.size) (hn : n ≤ 1000000000) :
    Calls Try.prog 26 #[v] w fun e w' => e = .returned (.tuple #[]) ∧ (∃ zs' : List UInt8, w'.ownsRow L 5 1 v n (zs'.map B)) ∧ Chg (fun k => v.ownBlock = some k) w w' := by
  obtain ⟨vo, vc, hvd, hvc⟩ := own_slice h
  have H : Hid (w.ownsRow L 5 1 v n (zs.map B)) := h
  obtain ⟨v0, hv0⟩ : ∃ v0, v0 = v := ⟨_, rfl⟩
  have HV : Hid (v = .slice vo n vc) := hvd
  have HV0 : Hid (v0 = v) := hv0
  rw [hvd]
  have HG : Hid (Calls Try.prog 26 #[.slice vo n vc] w fun e w' => e = .returned (.tuple #[]) ∧ (∃ zs' : List UInt8, w'.ownsRow L 5 1 v n (zs'.map B)) ∧ Chg (fun k => v.ownBlock = some k) w w') := ?_
  · rw [← hvd]
    rw [← hvd] at HG
    exact HG.out
  clear h hv0 hvd
  refine (fun h => h : (Calls Try.prog 26 #[.slice vo n vc] w fun e w' => e = .returned (.tuple #[]) ∧ (∃ zs' : List UInt8, w'.ownsRow L 5 1 v n (zs'.map B)) ∧ Chg (fun k => v.ownBlock = some k) w w') → _) ?_
  go_enter Try.func26, Try.ntmps26
  go_wp2_with fail
  go_loopw [2] (fun s2 wr => ∃ i : Nat, i ≤ n ∧ s2 = .int .i64 (i : Int) ∧ (∃ zs : List UInt8, wr.ownsRow L 5 1 v n (zs.map B)) ∧ Chg (fun k => v.ownBlock = some k) w wr) (fun s2 _ => n - (intOf s2).toNat)
  case atStart => exact ⟨0, by omega, rfl, ⟨_, H.out⟩, Chg.refl _ _⟩
  case round =>
    obtain ⟨i, hi, rfl, ⟨ys, hr⟩, hc⟩ := hrel
    by_cases hlt : i < n
    · have hvv := HV.out
      rw [hvv] at hr
      rcases hr.2 with ⟨e, e0⟩ | ⟨g, c, cur, e, hrest⟩
      · cases e; omega
      · cases e
        obtain ⟨hset, hfr⟩ := own_setB (k := i) hr (UInt8.ofNat (90 + i))
        have hyl : ys.length = n := by have := hr.1; simpa using this
        have hcell : wr.cell? ⟨g, i, none⟩ = some (B (ys[i]'(by omega))) := by
          have := hr.cells (g := g) rfl i (B (ys[i]'(by omega))) (by rw [List.getElem?_map, List.getElem?_eq_getElem (by omega)]; rfl)
          rwa [addr_add, Nat.zero_add] at this
        obtain ⟨zb, hzb⟩ : ∃ zb, zb = B (ys[i]'(by omega)) := ⟨_, rfl⟩
        rw [← hzb] at hcell
        have hmk : Value.int .u8 ((90 + (i : Int)) % 256) = B (UInt8.ofNat (90 + i)) := by
          unfold B
          first
            | (congr 1; done)
            | (congr 1; simp; done)
            | (congr 1; simp; omega)
        rw [← hmk] at hset
        have HSET : Hid ((∃ zs : List UInt8, (wr.setCell ⟨g, i, none⟩ (.int .u8 ((90 + (i : Int)) % 256))).ownsRow L 5 1 v n (zs.map B)) ∧ Chg (fun k => v.ownBlock = some k) w (wr.setCell ⟨g, i, none⟩ (.int .u8 ((90 + (i : Int)) % 256)))) := ⟨⟨_, by rw [hvv]; exact hset⟩, hc.trans (setCell_chg _ _ _ _) (fun j _ e => by subst e; rw [hvv]; rfl)⟩
        clear hset hr hc hzb hyl hrest hmk hvv
        go_wp2_with fail
        go_roundw
        case rel => exact ⟨i + 1, by omega, by go_num, HSET.out.1, HSET.out.2⟩
        case measure => simp [intOf]; omega
    · obtain rfl : i = n := by omega
      clear H
      go_wp2_with fail
      go_loopw [3, 0] (fun s3 s0 w2 => ∃ vd, vd = s0 ∧ ∃ j : Nat, j ≤ 80 ∧ s3 = .int .i64 (j : Int) ∧ (∃ zs : List UInt8, w2.ownsRow L 5 1 v i (zs.map B)) ∧ (∃ xs : List UInt8, w2.ownsRow L 5 1 vd (i + j) (xs.map B)) ∧ (∀ g, vd.ownBlock = some g → v.ownBlock = some g ∨ w.heap.size ≤ g) ∧ Chg (fun k => v.ownBlock = some k) w w2) (fun s3 _ _ => 80 - (intOf s3).toNat)
      case atStart => exact ⟨v, HV.out, 0, by omega, rfl, ⟨_, hr⟩, ⟨_, hr⟩, (fun g hg => Or.inl hg), hc⟩
      case round =>
        clear hr hc
        obtain ⟨vd, rfl, j, hj, rfl, ⟨zs2, hz⟩, ⟨xs, hx⟩, hat, hc2⟩ := hrel
        obtain ⟨wq, hwq⟩ : ∃ wq, wq = wr := ⟨_, rfl⟩
        by_cases hlt2 : j < 80
        · obtain ⟨do', dc, hdd, hdc⟩ := own_slice hx
          have hLs : L ≤ wr.heap.size := Nat.le_trans hL hc2.size
          obtain ⟨v5, w5, hr5, ho5, hg5, hk5⟩ := app_bytesK hx hLs [UInt8.ofNat (7 + j)] (by simp; omega)
          have hmk : B (UInt8.ofNat (7 + j)) = Value.int .u8 (7 + (j : Int)) := by
            unfold B
            congr 1
            simp
            omega
          have hr5' : ∀ ty, (Builtin.append_ #[30, 30] ty #[vd, .slice (some ⟨wr.heap.size, 0, none⟩) 1 1]).run Try.prog (wr.alloc (.cells #[B (UInt8.ofNat (7 + j))] 5)) = .ok v5 w5 := hr5
          rw [hmk] at hr5'
          have HHR : Hid _ := hr5'
          have HN : Hid ((∃ zs : List UInt8, w5.ownsRow L 5 1 v i (zs.map B)) ∧ (∃ xs : List UInt8, w5.ownsRow L 5 1 v5 (i + (j + 1)) (xs.map B)) ∧ (∀ g, v5.ownBlock = some g → v.ownBlock = some g ∨ w.heap.size ≤ g) ∧ Chg (fun k => v.ownBlock = some k) w w5) := by
            refine ⟨⟨zs2, ?_⟩, ⟨xs ++ [UInt8.ofNat (7 + j)], ?_⟩, fun g hg => ?_, ?_⟩
            · by_cases e : v.ownBlock = vd.ownBlock
              · exact hk5 v i L _ (by omega) e hz
              · refine own_keep2 hz hg5.chg (fun g hg hg2 => ?_)
                exact e (hg.trans hg2.symm)
            · rw [List.map_append]
              exact ho5
            · rcases hg5.at' g hg with h1 | h1
              · exact hat g h1
              · exact Or.inr (Nat.le_trans hc2.size h1)
            · exact hc2.trans hg5.chg (fun k hk e => by
                rcases hat k e with h1 | h1
                · exact h1
                · omega)
          subst hdd
          clear hz hx hat hc2 hr5 ho5 hg5 hk5 hmk hLs hr5' hwq
          go_wp2_with (at_builtin; refine wpList_runs rfl _ _ 30 rfl rfl rfl HHR.out ?_)
          go_roundw
          case rel => exact ⟨_, rfl, j + 1, by omega, by go_num, HN.out.1, HN.out.2.1, HN.out.2.2.1, HN.out.2.2.2⟩
          case measure => simp [intOf]; omega
        · obtain rfl : j = 80 := by omega
          rcases id hx.2 with ⟨e, e0⟩ | ⟨g, c, cur, e, hrest⟩
          · omega
          · subst e
            obtain ⟨hset, hfr⟩ := own_setB (k := i + 79) hx 8
            have hxl : xs.length = i + 80 := by have := hx.1; simpa using this
            have hcell : wr.cell? ⟨g, i + 79, none⟩ = some (B (xs[i + 79]'(by omega))) := by
              have := hx.cells (g := g) rfl (i + 79) (B (xs[i + 79]'(by omega))) (by rw [List.getElem?_map, List.getElem?_eq_getElem (by omega)]; rfl)
              rwa [addr_add, Nat.zero_add] at this
            obtain ⟨zb, hzb⟩ : ∃ zb, zb = B (xs[i + 79]'(by omega)) := ⟨_, rfl⟩
            rw [← hzb] at hcell
            have HF : Hid ((∃ zs : List UInt8, (wr.setCell ⟨g, i + 79, none⟩ (.int .u8 8)).ownsRow L 5 1 v i (zs.map B)) ∧ Chg (fun k => v.ownBlock = some k) w (wr.setCell ⟨g, i + 79, none⟩ (.int .u8 8))) := by
              refine ⟨⟨zs2, ?_⟩, hc2.trans (setCell_chg _ _ _ _) (fun k hk e => by
                subst e
                rcases hat k rfl with h1 | h1
                · exact h1
                · omega)⟩
              by_cases e : v.ownBlock = some g
              · rcases id hz.2 with ⟨e1, e2⟩ | ⟨g1, c1, cur1, e1, hr1⟩
                · rw [e1] at e; cases e
                · rw [e1] at e hz ⊢
                  cases e
                  exact own_setAbove (L' := 0) (m := 0) (c := 0) (ys := []) hz (by omega) 8
              · exact own_keep2 hz (setCell_chg wr g (i + 79) (.int .u8 8)) (fun k hk hk2 => e (by rw [← hk2]; exact hk))
            clear hz hx hat hc2 hset hrest hxl hzb hwq
            have hix : ((i : Int) + 80 - 1) = ((i + 79 : Nat) : Int) := by omega
            go_wp2_with fail
            refine bodyPost_end (results_none rfl _ _ _) rfl ?_
            exact ⟨rfl, HF.out.1, HF.out.2⟩
end Go.Proofs.Ytlajcaofpmjdlaa
