import Derived.Test.YtjojhhkbebddmaaR12
namespace Go.Proofs.Ytjojhhkbebddmaa
open Go.RowKit Go.PlainAid
set_option linter.unusedVariables false
set_option linter.unusedSimpArgs false
theorem RM.setNeed {L : Nat} {g : RG} {r : RV} {w : World} (h : RM L g r w) (q : Bool) : RM L g { r with need := q } (w.setCell ⟨g.rb, 5, none⟩ (.bool q)) ∧ RStp g g w (w.setCell ⟨g.rb, 5, none⟩ (.bool q)) := by
  obtain ⟨n1, n2, n3⟩ := h.ne
  have cs := setCell_chg w g.rb 5 (.bool q)
  exact ⟨⟨h.b.set 5 _, ownsRow_same h.k (fun j e => cs.block j (ownsRow_lt h.k e).2 (n1 j e).1), ownsRow_same h.o (fun j e => cs.block j (ownsRow_lt h.o e).2 (n2 j e).1), ownsRow_same h.t (fun j e => cs.block j (ownsRow_lt h.t e).2 (n3 j e)), h.dj, h.lo⟩, rfl, cs.mono (fun j _ e => .inl e), fun k hk => .inl hk⟩
def begR (x : EV) (r : RV) (l r' h : Int) (q : Bool) : RV := if begC x l r' h = 0 then { r with kn := r.kn ++ [⟨lastR x.kn 16 + 1, x.me⟩], need := q } else r
theorem begC_ok {x : EV} {l r h : Int} (hc : begC x l r h = 0) : cnts l r h = true ∧ tgtE x x.n = e0 ∧ lastR x.kn 16 + 1 ≤ 1099511627776 := by
  unfold begC at hc
  cases h1 : cnts l r h
  · rw [h1, if_pos rfl] at hc; cases hc
  · rw [h1, if_neg (by decide)] at hc
    by_cases h2 : tgtE x x.n = e0
    · rw [if_neg (fun k => k h2)] at hc
      by_cases h3 : 1099511627776 < lastR x.kn 16 + 1
      · rw [if_pos h3] at hc; cases hc
      · exact ⟨rfl, h2, by omega⟩
    · rw [if_pos h2] at hc; cases hc
theorem Agr.beg {x : EV} {r : RV} (ha : Agr x r) (hx : x.Nm) (l r' h : Int) (q : Bool) : Agr (begX x l r' h q) (begR x r l r' h q) := by
  unfold begX begR
  by_cases hc : begC x l r' h = 0
  · rw [if_pos hc, if_pos hc]
    obtain ⟨_, h2, h3⟩ := begC_ok hc
    exact ha.begins hx h2 h3 q
  · rw [if_neg hc, if_neg hc]; exact ha
set_option maxRecDepth 100000 in
set_option maxHeartbeats 6400000 in
theorem rbeg_1 {L : Nat} {g : RG} {x : EV} {r : RV} (l r' h : Int) (q : Bool) (w : World) (hM : RM L g r w) (ha : Agr x r) (hx : x.Nm) (d1 : cnts l r' h = false) : Calls Try.prog 47 #[.pointer (some ⟨g.rb, 0, none⟩), .int .i64 l, .int .i64 r', .int .i64 h, .bool q] w fun e w' => e = .returned (.tuple #[.slice none 0 0, .int .i64 1]) ∧ Below w.heap.size w w' := by
  have HM : Hid _ := hM
  have HA : Hid _ := ha
  have HX : Hid _ := hx
  have HF : Hid _ := rfrozen_any w hM ha hx
  have HRT : Hid (∀ W, Calls Try.prog 67 #[.int .i64 l, .int .i64 r', .int .i64 h] W fun e w' => e = .returned (.bool false) ∧ w' = W) := fun W => by rw [← d1]; exact right_any l r' h W
  clear hM ha hx
  go_enter Try.func47, Try.ntmps47
  go_wp2_with (first
    | (go_at_call 67; refine Calls.mono (HRT.out _) ?_; rintro e w0 ⟨rfl, hw0⟩; replace hw0 := hw0.symm; subst hw0)
    | fail)
  go_ret2
  exact ⟨rfl, Below.refl _ _⟩
set_option maxRecDepth 100000 in
set_option maxHeartbeats 6400000 in
theorem rbeg_2 {L : Nat} {g : RG} {x : EV} {r : RV} (l r' h : Int) (q : Bool) (w : World) (hM : RM L g r w) (ha : Agr x r) (hx : x.Nm) (d1 : cnts l r' h = true) (d2 : tgtE x x.n ≠ e0) : Calls Try.prog 47 #[.pointer (some ⟨g.rb, 0, none⟩), .int .i64 l, .int .i64 r', .int .i64 h, .bool q] w fun e w' => e = .returned (.tuple #[.slice none 0 0, .int .i64 62]) ∧ Below w.heap.size w w' := by
  have HM : Hid _ := hM
  have HA : Hid _ := ha
  have HX : Hid _ := hx
  have HF : Hid _ := rfrozen_any w hM ha hx
  have HRT : Hid (∀ W, Calls Try.prog 67 #[.int .i64 l, .int .i64 r', .int .i64 h] W fun e w' => e = .returned (.bool true) ∧ w' = W) := fun W => by rw [← d1]; exact right_any l r' h W
  rw [show (!decide (tgtE x x.n = e0)) = true from by simp [d2]] at HF
  clear hM ha hx
  go_enter Try.func47, Try.ntmps47
  go_wp2_with (first
    | (go_at_call 67; refine Calls.mono (HRT.out _) ?_; rintro e w0 ⟨rfl, hw0⟩; replace hw0 := hw0.symm; subst hw0)
    | (go_at_call 68; refine Calls.mono HF.out ?_; rintro e w1 ⟨rfl, hb1⟩)
    | fail)
  go_ret2
  exact ⟨rfl, hb1⟩
set_option maxRecDepth 100000 in
set_option maxHeartbeats 6400000 in
theorem rbeg_3 {L : Nat} {g : RG} {x : EV} {r : RV} (l r' h : Int) (q : Bool) (w : World) (hM : RM L g r w) (ha : Agr x r) (hx : x.Nm) (d1 : cnts l r' h = true) (d2 : tgtE x x.n = e0) (d3 : 1099511627776 < lastR x.kn 16 + 1) : Calls Try.prog 47 #[.pointer (some ⟨g.rb, 0, none⟩), .int .i64 l, .int .i64 r', .int .i64 h, .bool q] w fun e w' => e = .returned (.tuple #[.slice none 0 0, .int .i64 2]) ∧ Below w.heap.size w w' := by
  have HM : Hid _ := hM
  have HA : Hid _ := ha
  have HX : Hid _ := hx
  have HF : Hid _ := rfrozen_any w hM ha hx
  have HRT : Hid (∀ W, Calls Try.prog 67 #[.int .i64 l, .int .i64 r', .int .i64 h] W fun e w' => e = .returned (.bool true) ∧ w' = W) := fun W => by rw [← d1]; exact right_any l r' h W
  rw [show (!decide (tgtE x x.n = e0)) = false from by simp [d2]] at HF
  have HD3 : Hid _ := d3
  clear d3
  have hn16 := hx.n.2
  have HGK : Hid (∀ (j : Nat) W, Below w.heap.size w W → Calls Try.prog 69 #[g.vk, .int .i64 (j : Int)] W fun e w' => e = .returned (.int .i64 (x.kn j)) ∧ w' = W) := fun j W hW => by rw [ha.kn]; exact greatest_any (j : Int) W (hM.more hW).k
  have HLS : Hid (lastR x.kn 16 = lastR x.kn x.n) := ha.last hx
  have HCL : Hid (∀ W, Below w.heap.size w W → W.cell? ⟨g.rb, 0, none⟩ = some (.int .i64 (x.me : Int)) ∧ W.cell? ⟨g.rb, 1, none⟩ = some (.int .i64 (x.n : Int)) ∧ W.cell? ⟨g.rb, 2, none⟩ = some g.vk) := fun W hW => ⟨by rw [← ha.me]; exact (hM.more hW).c0, by rw [← ha.n]; exact (hM.more hW).c1, (hM.more hW).c2⟩
  have hlb := ha.lastB
  clear hM ha hx
  go_enter Try.func47, Try.ntmps47
  go_wp2_with (first
    | (go_at_call 67; refine Calls.mono (HRT.out _) ?_; rintro e w0 ⟨rfl, hw0⟩; replace hw0 := hw0.symm; subst hw0)
    | (go_at_call 68; refine Calls.mono HF.out ?_; rintro e w1 ⟨rfl, hb1⟩)
    | fail)
  obtain ⟨c0, c1, c2⟩ := HCL.out _ hb1
  have HB1 : Hid _ := hb1
  clear hb1
  go_loop [12, 13] (fun s i => ∃ j : Nat, j ≤ x.n ∧ i = .int .i64 (j : Int) ∧ s = .int .i64 (lastR x.kn j)) (fun _ i => x.n - (intOf i).toNat)
  case atStart => exact ⟨0, by omega, rfl, rfl⟩
  case round =>
    obtain ⟨j, hj, rfl, rfl⟩ := hrel
    by_cases hlt : j < x.n
    · have HL : Hid (lastR x.kn (j + 1) = max (lastR x.kn j) (x.kn j)) := rfl
      have HG1 : Hid _ := HGK.out j w1 HB1.out
      generalize lastR x.kn j = m at *
      generalize x.kn j = v at *
      go_wp2_with (first
        | (go_at_call 69; refine Calls.mono HG1.out ?_; rintro e w2 ⟨rfl, hw2⟩; replace hw2 := hw2.symm; subst hw2)
        | fail)
      all_goals
        go_round
        case rel =>
          refine ⟨j + 1, by omega, by go_num, ?_⟩
          rw [HL.out]
          first
            | rfl
            | exact congrArg (Value.int .i64) (show (if m < v then v else m) = max m v from by split <;> omega)
        case measure => simp [intOf]; omega
    · obtain rfl : j = x.n := by omega
      rw [HLS.out] at hlb
      have hd3 := HD3.out
      rw [HLS.out] at hd3
      have hn3 : lastR x.kn x.n = 1099511627776 := by omega
      rw [hn3]
      clear hd3 hn3 hlb
      go_wp2_with fail
      go_ret2
      exact ⟨rfl, HB1.out⟩
set_option maxRecDepth 100000 in
set_option maxHeartbeats 6400000 in
theorem rbeg_4 {L : Nat} {g : RG} {x : EV} {r : RV} (l r' h : Int) (q : Bool) (w : World) (hM : RM L g r w) (ha : Agr x r) (hx : x.Nm) (hlen : r.kn.length ≤ 999999990) (d1 : cnts l r' h = true) (d2 : tgtE x x.n = e0) (d3 : lastR x.kn 16 + 1 ≤ 1099511627776) (d4 : hasB (begY x q) l r' h = true) : Calls Try.prog 47 #[.pointer (some ⟨g.rb, 0, none⟩), .int .i64 l, .int .i64 r', .int .i64 h, .bool q] w fun e w' => ∃ v, e = .returned (.tuple #[v, .int .i64 0]) ∧ w'.ownsRow w.heap.size 117 6 v ([⟨4, x.me, liveE (begY x q) x.me, e0⟩] : List Ac).length (flatA [⟨4, x.me, liveE (begY x q) x.me, e0⟩]) ∧ ∃ g', RM L g' { r with kn := r.kn ++ [⟨lastR x.kn 16 + 1, x.me⟩], need := q } w' ∧ RStp g g' w w' := by
  have HM : Hid _ := hM
  have HA : Hid _ := ha
  have HX : Hid _ := hx
  have HF : Hid _ := rfrozen_any w hM ha hx
  have HRT : Hid (∀ W, Calls Try.prog 67 #[.int .i64 l, .int .i64 r', .int .i64 h] W fun e w' => e = .returned (.bool true) ∧ w' = W) := fun W => by rw [← d1]; exact right_any l r' h W
  rw [show (!decide (tgtE x x.n = e0)) = false from by simp [d2]] at HF
  have HLEN : Hid (r.kn.length ≤ 1000000000) := show r.kn.length ≤ 1000000000 from by omega
  have HD3 : Hid _ := d3
  have HD4 : Hid _ := d4
  have HAB : Hid (Agr (begY x q) { r with kn := r.kn ++ [⟨lastR x.kn 16 + 1, x.me⟩], need := q }) := ha.begins hx d2 d3 q
  clear d3 d4 hlen
  have hn16 := hx.n.2
  have HGK : Hid (∀ (j : Nat) W, Below w.heap.size w W → Calls Try.prog 69 #[g.vk, .int .i64 (j : Int)] W fun e w' => e = .returned (.int .i64 (x.kn j)) ∧ w' = W) := fun j W hW => by rw [ha.kn]; exact greatest_any (j : Int) W (hM.more hW).k
  have HLS : Hid (lastR x.kn 16 = lastR x.kn x.n) := ha.last hx
  have HCL : Hid (∀ W, Below w.heap.size w W → W.cell? ⟨g.rb, 0, none⟩ = some (.int .i64 (x.me : Int)) ∧ W.cell? ⟨g.rb, 1, none⟩ = some (.int .i64 (x.n : Int)) ∧ W.cell? ⟨g.rb, 2, none⟩ = some g.vk) := fun W hW => ⟨by rw [← ha.me]; exact (hM.more hW).c0, by rw [← ha.n]; exact (hM.more hW).c1, (hM.more hW).c2⟩
  have hlb := ha.lastB
  clear hM ha hx
  go_enter Try.func47, Try.ntmps47
  go_wp2_with (first
    | (go_at_call 67; refine Calls.mono (HRT.out _) ?_; rintro e w0 ⟨rfl, hw0⟩; replace hw0 := hw0.symm; subst hw0)
    | (go_at_call 68; refine Calls.mono HF.out ?_; rintro e w1 ⟨rfl, hb1⟩)
    | fail)
  obtain ⟨c0, c1, c2⟩ := HCL.out _ hb1
  have HB1 : Hid _ := hb1
  clear hb1
  go_loop [12, 13] (fun s i => ∃ j : Nat, j ≤ x.n ∧ i = .int .i64 (j : Int) ∧ s = .int .i64 (lastR x.kn j)) (fun _ i => x.n - (intOf i).toNat)
  case atStart => exact ⟨0, by omega, rfl, rfl⟩
  case round =>
    obtain ⟨j, hj, rfl, rfl⟩ := hrel
    by_cases hlt : j < x.n
    · have HL : Hid (lastR x.kn (j + 1) = max (lastR x.kn j) (x.kn j)) := rfl
      have HG1 : Hid _ := HGK.out j w1 HB1.out
      generalize lastR x.kn j = m at *
      generalize x.kn j = v at *
      go_wp2_with (first
        | (go_at_call 69; refine Calls.mono HG1.out ?_; rintro e w2 ⟨rfl, hw2⟩; replace hw2 := hw2.symm; subst hw2)
        | fail)
      all_goals
        go_round
        case rel =>
          refine ⟨j + 1, by omega, by go_num, ?_⟩
          rw [HL.out]
          first
            | rfl
            | exact congrArg (Value.int .i64) (show (if m < v then v else m) = max m v from by split <;> omega)
        case measure => simp [intOf]; omega
    · obtain rfl : j = x.n := by omega
      rw [HLS.out] at hlb
      have hd3 := HD3.out
      rw [HLS.out] at hd3 HAB
      have HEX : Hid (lastR x.kn 16 = lastR x.kn x.n) := HLS.out
      generalize lastR x.kn x.n = m at *
      go_upto_region 13 with fail
      have hB0 : Blk (w1.alloc (.cells #[.int .i64 (m + 1), .int .i64 (x.me : Int)] 49)) w1.heap.size #[.int .i64 (m + 1), .int .i64 (x.me : Int)] 49 := heap_alloc_new w1 _
      have hbW : Below w.heap.size w (w1.alloc (.cells #[.int .i64 (m + 1), .int .i64 (x.me : Int)] 49)) := bal HB1.out (Nat.le_refl _) _
      have hz1 := HB1.out.size
      obtain ⟨p, hp⟩ : ∃ p, p = w1.heap.size := ⟨_, rfl⟩
      generalize w1.alloc (.cells #[.int .i64 (m + 1), .int .i64 (x.me : Int)] 49) = W at *
      rw [← hp] at hB0
      try rw [← hp]
      have HBX : Hid (Blk W p #[.int .i64 (m + 1), .int .i64 (x.me : Int)] 49) := hB0
      have HMX : Hid (RM L g r W) := show RM L g r W from HM.out.more hbW
      have HBW : Hid (Below w.heap.size w W) := hbW
      have HQN : Hid (¬ rown g p) := show ¬ rown g p from fun e => by have := (HM.out.lt e).2; omega
      have HP : Hid _ := hp
      have HZ1 : Hid _ := hz1
      clear hB0 hbW hp hz1 c0 c1 c2
      rename_i K hK
      try rw [show ∀ a : Act, a.put none undef = a from fun _ => rfl]
      have hDR : Below W.heap.size W ({ W with drawn := W.drawn + 1 } : World) := (Below.refl _ _).drew
      have HMD : Hid (RM L g r ({ W with drawn := W.drawn + 1 } : World)) := show RM L g r _ from HMX.out.more hDR
      obtain ⟨v8, w8, hr8, hB8, hC8, hR8, hS8⟩ := HMD.out.addK ⟨(m + 1), (x.me : Int)⟩ HLEN.out
      obtain ⟨ao8, n8, c8, hv8⟩ : ∃ ao n c, v8 = Value.slice ao n c := by obtain ⟨ao, c, h, _⟩ := own_slice hR8.k; exact ⟨_, _, _, h⟩
      subst hv8
      have HR8 : Hid _ := hR8
      have HS8 : Hid _ := hS8
      clear hR8 hS8
      have HC0 : (fun wz : World => wz.cell? ⟨g.rb, 2, none⟩ = some (g.vk) ∧ Blk wz (p) #[.int .i64 (m + 1), .int .i64 (x.me : Int)] 49) ({ W with drawn := W.drawn + 1 } : World) := ⟨HMD.out.c2, HBX.out⟩
      have hqn : (g.vk).ownBlock ≠ some (p) := fun e => HQN.out (.inr (.inl e))
      have HCA : (fun wz : World => wz.cell? ⟨g.rb, 2, none⟩ = some (g.vk) ∧ Blk wz (p) #[.int .i64 (m + 1), .int .i64 (x.me : Int)] 49) (World.alloc ({ W with drawn := W.drawn + 1 } : World) (.cells #[.int .i64 (m + 1), .int .i64 (x.me : Int)] 49)) := ⟨(Below.cell (Below.alloc (Below.refl _ _) (Nat.le_refl _) _) (World.block_lt_of_cell? _ _ HC0.1)).trans HC0.1, Blk.allc HC0.2 _⟩
      have HC9 : (fun wz : World => wz.cell? ⟨g.rb, 2, none⟩ = some (g.vk) ∧ Blk wz (p) #[.int .i64 (m + 1), .int .i64 (x.me : Int)] 49) w8 := ⟨(hB8.cell 2).trans rfl, hC8.blk HC0.2 hqn⟩
      refine wp_region_mix (fun wz : World => wz.cell? ⟨g.rb, 2, none⟩ = some (g.vk) ∧ Blk wz (p) #[.int .i64 (m + 1), .int .i64 (x.me : Int)] 49) (fun i => i == 6 || i == 7 || i == 10) 10 (by kernel_rfl) rfl (by kernel_rfl) (by kernel_rfl) (by kernel_rfl) ?_
      refine withFrP (N := 74) rfl ?_
      intro f0 F0 hff
      have ee0 : f0 0 = Value.pointer (some ⟨g.rb, 0, none⟩) := hff 0
      have ee1 : f0 14 = Value.pointer (some ⟨p, 0, none⟩) := hff 14
      clear hff
      refine lyp F0 rfl HC0 rfl (by omega) (wanted_none rfl) (v := Value.pointer (some ⟨g.rb, 0, none⟩)) (fun wr hwr => by simp only [execOp, (F0.eval 0 (by omega)).trans (show _ = Value.pointer (some ⟨g.rb, 0, none⟩) from by simp [upd, ee0, ee1])]; first | rfl | simp [go_sem]) fun F1 => ?_
      refine lyp F1 rfl HC0 rfl (by omega) (wanted_none rfl) (v := Value.pointer (some ⟨g.rb, 0, none⟩)) (fun wr hwr => by simp only [execOp, (F1.eval 0 (by omega)).trans (show _ = Value.pointer (some ⟨g.rb, 0, none⟩) from by simp [upd, ee0, ee1])]; first | rfl | simp [go_sem]) fun F2 => ?_
      refine lyp F2 rfl HC0 rfl (by omega) (wanted_none rfl) (v := Value.pointer (some ⟨g.rb, 0, none⟩)) (fun wr hwr => by simp only [execOp, (F2.eval 49 (by omega)).trans (show _ = Value.pointer (some ⟨g.rb, 0, none⟩) from by simp [upd, ee0, ee1])]; simp [go_sem]) fun F3 => ?_
      refine lyp F3 rfl HC0 rfl (by omega) (wanted_none rfl) (v := Value.pointer (some ⟨g.rb, 2, none⟩)) (fun wr hwr => by simp only [execOp, (F3.eval 50 (by omega)).trans (show _ = Value.pointer (some ⟨g.rb, 0, none⟩) from by simp [upd, ee0, ee1])]; simp [go_sem]) fun F4 => ?_
      refine lyp F4 rfl HC0 rfl (by omega) (wanted_none rfl) (v := (g.vk)) (fun wr hwr => by simp only [execOp, (F4.eval 51 (by omega)).trans (show _ = Value.pointer (some ⟨g.rb, 2, none⟩) from by simp [upd, ee0, ee1])]; simp [go_sem, hwr.1]) fun F5 => ?_
      refine lyp F5 rfl HC0 rfl (by omega) (wanted_none rfl) (v := Value.agg #[Value.int .i64 (m + 1), Value.int .i64 (x.me : Int)]) (fun wr hwr => by simp only [execOp, (F5.eval 14 (by omega)).trans (show _ = Value.pointer (some ⟨p, 0, none⟩) from by simp [upd, ee0, ee1])]; have h0 := hwr.2.cell 0; have h1 := hwr.2.cell 1; simp [go_sem, h0, h1]) fun F6 => ?_
      refine lep F6 rfl HC0 rfl (by omega) (wanted_none rfl) (v := Value.slice (some ⟨({ W with drawn := W.drawn + 1 } : World).heap.size, 0, none⟩) 1 1) (w1 := (World.alloc ({ W with drawn := W.drawn + 1 } : World) (.cells #[.int .i64 (m + 1), .int .i64 (x.me : Int)] 49))) (by simp only [execOp, List.map_toArray, List.map_cons, List.map_nil, (F6.eval 53 (by omega)).trans (show _ = Value.agg #[Value.int .i64 (m + 1), Value.int .i64 (x.me : Int)] from by simp [upd, ee0, ee1])]; simp [go_sem]) fun F7 => ?_
      refine lep F7 rfl HCA rfl (by omega) (wanted_none rfl) (v := Value.slice ao8 n8 c8) (w1 := w8) (by simp only [execOp, resolve, invoke, builtin, List.map_toArray, List.map_cons, List.map_nil, (F7.eval 52 (by omega)).trans (show _ = (g.vk) from by simp [upd, ee0, ee1]), (F7.eval 54 (by omega)).trans (show _ = Value.slice (some ⟨({ W with drawn := W.drawn + 1 } : World).heap.size, 0, none⟩) 1 1 from by simp [upd, ee0, ee1])]; simp only [Sem.run_bind, Sem.run_pure, Result.andThen_ok, hr8]; try rfl) fun F8 => ?_
      refine lyp F8 rfl HC9 rfl (by omega) (wanted_none rfl) (v := Value.pointer (some ⟨g.rb, 0, none⟩)) (fun wr hwr => by simp only [execOp, (F8.eval 48 (by omega)).trans (show _ = Value.pointer (some ⟨g.rb, 0, none⟩) from by simp [upd, ee0, ee1])]; simp [go_sem]) fun F9 => ?_
      refine lyp F9 rfl HC9 rfl (by omega) (wanted_none rfl) (v := Value.pointer (some ⟨g.rb, 2, none⟩)) (fun wr hwr => by simp only [execOp, (F9.eval 56 (by omega)).trans (show _ = Value.pointer (some ⟨g.rb, 0, none⟩) from by simp [upd, ee0, ee1])]; simp [go_sem]) fun F10 => ?_
      refine lst rfl HC9 rfl (wanted_none rfl) (w1 := w8.setCell ⟨g.rb, 2, none⟩ (Value.slice ao8 n8 c8)) (by simp only [execOp, (F10.eval 57 (by omega)).trans (show _ = Value.pointer (some ⟨g.rb, 2, none⟩) from by simp [upd, ee0, ee1]), (F10.eval 55 (by omega)).trans (show _ = Value.slice ao8 n8 c8 from by simp [upd, ee0, ee1])]; simp [go_sem, hB8.frozen 2, show w8.cell? ⟨g.rb, 2, none⟩ = some (g.vk) from HC9.1]) ?_
      refine ⟨fun h => by omega, ?_⟩
      refine hK _ _ ?_
      clear F0 F1 F2 F3 F4 F5 F6 F7 F8 F9 F10 ee0 ee1 HC0 HCA HC9 hr8 hB8 hqn hC8 HMD
      simp only [Act.put, List.setIfInBounds_toArray, List.set_cons_succ, List.set_cons_zero]
      have HW9 : Hid (Blk (w8.setCell ⟨g.rb, 2, none⟩ (Value.slice ao8 n8 c8)) p #[.int .i64 (m + 1), .int .i64 (x.me : Int)] 49) := show Blk _ _ _ _ from HS8.out.2.1.blk (Blk.up (w := W) HBX.out hDR) HQN.out
      have HS9 : Hid (RStp g { g with vk := Value.slice ao8 n8 c8 } w (w8.setCell ⟨g.rb, 2, none⟩ (Value.slice ao8 n8 c8))) := show RStp _ _ _ _ from (RStp.refl (bgo HBW.out hDR (Nat.le_refl _))).trans HS8.out
      generalize hW9 : w8.setCell ⟨g.rb, 2, none⟩ (Value.slice ao8 n8 c8) = W9 at *
      have HR9 : Hid (RM L { g with vk := Value.slice ao8 n8 c8 } { r with kn := r.kn ++ [⟨m + 1, (x.me : Int)⟩] } W9) := HR8.out
      have c5 := HR9.out.b.cell 5
      have hf5 := HR9.out.b.frozen 5
      replace c5 : W9.cell? ⟨g.rb, 5, none⟩ = some (.bool r.need) := c5
      replace hf5 : W9.frozen? ⟨g.rb, 5, none⟩ = false := hf5
      have hN := HR9.out.setNeed q
      have HN1 : Hid (RM L { g with vk := Value.slice ao8 n8 c8 } { r with kn := r.kn ++ [⟨m + 1, (x.me : Int)⟩], need := q } (W9.setCell ⟨g.rb, 5, none⟩ (.bool q))) := show RM _ _ _ _ from hN.1
      have HN2 : Hid (RStp g { g with vk := Value.slice ao8 n8 c8 } w (W9.setCell ⟨g.rb, 5, none⟩ (.bool q))) := show RStp _ _ _ _ from HS9.out.trans hN.2
      have HBQ : Hid (Blk (W9.setCell ⟨g.rb, 5, none⟩ (.bool q)) p #[.int .i64 (m + 1), .int .i64 (x.me : Int)] 49) := show Blk _ _ _ _ from Blk.oth HW9.out (fun e => HQN.out (.inl e)) _
      clear hN HR8 HS8 hW9 hDR HMX HBX
      go_upto_region 15 with fail
      have HLK : Hid _ := rlook_any (x := begY x q) l r' h _ HN1.out HAB.out (HX.out.begY q)
      generalize hWA : W9.setCell ⟨g.rb, 5, none⟩ (.bool q) = WA at *
      have HLK2 : Hid (Calls Try.prog 51 #[.pointer (some ⟨g.rb, 0, none⟩), .int .i64 l, .int .i64 r', .int .i64 h] WA _) := HLK.out
      clear hWA c5 hf5 HLK
      unfold lookA at HLK2
      rw [HD4.out] at HLK2
      rw [if_pos rfl] at HLK2
      go_wp2_with (first
        | (go_at_call 51; refine Calls.mono HLK2.out ?_; rintro e w5 ⟨v5, rfl, ho5, hb5⟩; obtain ⟨ao5, c5, hv5, _⟩ := own_slice ho5; have HO5 : Hid _ := ho5; have HB5 : Hid _ := hb5; clear ho5 hb5; subst hv5)
        | fail)
      go_ret2
      have hs5 := HN2.out.trans (RStp.refl HB5.out)
      rw [HEX.out]
      exact ⟨_, rfl, ownsRow_mono HO5.out HN2.out.2.1.size, _, HN1.out.more HB5.out, hs5⟩
set_option maxRecDepth 100000 in
set_option maxHeartbeats 6400000 in
theorem rbeg_5 {L : Nat} {g : RG} {x : EV} {r : RV} (l r' h : Int) (q : Bool) (w : World) (hM : RM L g r w) (ha : Agr x r) (hx : x.Nm) (hlen : r.kn.length ≤ 999999990) (d1 : cnts l r' h = true) (d2 : tgtE x x.n = e0) (d3 : lastR x.kn 16 + 1 ≤ 1099511627776) (d4 : hasB (begY x q) l r' h = false) : Calls Try.prog 47 #[.pointer (some ⟨g.rb, 0, none⟩), .int .i64 l, .int .i64 r', .int .i64 h, .bool q] w fun e w' => ∃ v, e = .returned (.tuple #[v, .int .i64 0]) ∧ w'.ownsRow w.heap.size 117 6 v ([⟨1, -1, ⟨lastR x.kn 16 + 1, x.me⟩, e0⟩] : List Ac).length (flatA [⟨1, -1, ⟨lastR x.kn 16 + 1, x.me⟩, e0⟩]) ∧ ∃ g', RM L g' { r with kn := r.kn ++ [⟨lastR x.kn 16 + 1, x.me⟩], need := q } w' ∧ RStp g g' w w' := by
  have HM : Hid _ := hM
  have HA : Hid _ := ha
  have HX : Hid _ := hx
  have HF : Hid _ := rfrozen_any w hM ha hx
  have HRT : Hid (∀ W, Calls Try.prog 67 #[.int .i64 l, .int .i64 r', .int .i64 h] W fun e w' => e = .returned (.bool true) ∧ w' = W) := fun W => by rw [← d1]; exact right_any l r' h W
  rw [show (!decide (tgtE x x.n = e0)) = false from by simp [d2]] at HF
  have HLEN : Hid (r.kn.length ≤ 1000000000) := show r.kn.length ≤ 1000000000 from by omega
  have HD3 : Hid _ := d3
  have HD4 : Hid _ := d4
  have HAB : Hid (Agr (begY x q) { r with kn := r.kn ++ [⟨lastR x.kn 16 + 1, x.me⟩], need := q }) := ha.begins hx d2 d3 q
  clear d3 d4 hlen
  have hn16 := hx.n.2
  have HGK : Hid (∀ (j : Nat) W, Below w.heap.size w W → Calls Try.prog 69 #[g.vk, .int .i64 (j : Int)] W fun e w' => e = .returned (.int .i64 (x.kn j)) ∧ w' = W) := fun j W hW => by rw [ha.kn]; exact greatest_any (j : Int) W (hM.more hW).k
  have HLS : Hid (lastR x.kn 16 = lastR x.kn x.n) := ha.last hx
  have HCL : Hid (∀ W, Below w.heap.size w W → W.cell? ⟨g.rb, 0, none⟩ = some (.int .i64 (x.me : Int)) ∧ W.cell? ⟨g.rb, 1, none⟩ = some (.int .i64 (x.n : Int)) ∧ W.cell? ⟨g.rb, 2, none⟩ = some g.vk) := fun W hW => ⟨by rw [← ha.me]; exact (hM.more hW).c0, by rw [← ha.n]; exact (hM.more hW).c1, (hM.more hW).c2⟩
  have hlb := ha.lastB
  clear hM ha hx
  go_enter Try.func47, Try.ntmps47
  go_wp2_with (first
    | (go_at_call 67; refine Calls.mono (HRT.out _) ?_; rintro e w0 ⟨rfl, hw0⟩; replace hw0 := hw0.symm; subst hw0)
    | (go_at_call 68; refine Calls.mono HF.out ?_; rintro e w1 ⟨rfl, hb1⟩)
    | fail)
  obtain ⟨c0, c1, c2⟩ := HCL.out _ hb1
  have HB1 : Hid _ := hb1
  clear hb1
  go_loop [12, 13] (fun s i => ∃ j : Nat, j ≤ x.n ∧ i = .int .i64 (j : Int) ∧ s = .int .i64 (lastR x.kn j)) (fun _ i => x.n - (intOf i).toNat)
  case atStart => exact ⟨0, by omega, rfl, rfl⟩
  case round =>
    obtain ⟨j, hj, rfl, rfl⟩ := hrel
    by_cases hlt : j < x.n
    · have HL : Hid (lastR x.kn (j + 1) = max (lastR x.kn j) (x.kn j)) := rfl
      have HG1 : Hid _ := HGK.out j w1 HB1.out
      generalize lastR x.kn j = m at *
      generalize x.kn j = v at *
      go_wp2_with (first
        | (go_at_call 69; refine Calls.mono HG1.out ?_; rintro e w2 ⟨rfl, hw2⟩; replace hw2 := hw2.symm; subst hw2)
        | fail)
      all_goals
        go_round
        case rel =>
          refine ⟨j + 1, by omega, by go_num, ?_⟩
          rw [HL.out]
          first
            | rfl
            | exact congrArg (Value.int .i64) (show (if m < v then v else m) = max m v from by split <;> omega)
        case measure => simp [intOf]; omega
    · obtain rfl : j = x.n := by omega
      rw [HLS.out] at hlb
      have hd3 := HD3.out
      rw [HLS.out] at hd3 HAB
      have HEX : Hid (lastR x.kn 16 = lastR x.kn x.n) := HLS.out
      generalize lastR x.kn x.n = m at *
      go_upto_region 13 with fail
      have hB0 : Blk (w1.alloc (.cells #[.int .i64 (m + 1), .int .i64 (x.me : Int)] 49)) w1.heap.size #[.int .i64 (m + 1), .int .i64 (x.me : Int)] 49 := heap_alloc_new w1 _
      have hbW : Below w.heap.size w (w1.alloc (.cells #[.int .i64 (m + 1), .int .i64 (x.me : Int)] 49)) := bal HB1.out (Nat.le_refl _) _
      have hz1 := HB1.out.size
      obtain ⟨p, hp⟩ : ∃ p, p = w1.heap.size := ⟨_, rfl⟩
      generalize w1.alloc (.cells #[.int .i64 (m + 1), .int .i64 (x.me : Int)] 49) = W at *
      rw [← hp] at hB0
      try rw [← hp]
      have HBX : Hid (Blk W p #[.int .i64 (m + 1), .int .i64 (x.me : Int)] 49) := hB0
      have HMX : Hid (RM L g r W) := show RM L g r W from HM.out.more hbW
      have HBW : Hid (Below w.heap.size w W) := hbW
      have HQN : Hid (¬ rown g p) := show ¬ rown g p from fun e => by have := (HM.out.lt e).2; omega
      have HP : Hid _ := hp
      have HZ1 : Hid _ := hz1
      clear hB0 hbW hp hz1 c0 c1 c2
      rename_i K hK
      try rw [show ∀ a : Act, a.put none undef = a from fun _ => rfl]
      have hDR : Below W.heap.size W ({ W with drawn := W.drawn + 1 } : World) := (Below.refl _ _).drew
      have HMD : Hid (RM L g r ({ W with drawn := W.drawn + 1 } : World)) := show RM L g r _ from HMX.out.more hDR
      obtain ⟨v8, w8, hr8, hB8, hC8, hR8, hS8⟩ := HMD.out.addK ⟨(m + 1), (x.me : Int)⟩ HLEN.out
      obtain ⟨ao8, n8, c8, hv8⟩ : ∃ ao n c, v8 = Value.slice ao n c := by obtain ⟨ao, c, h, _⟩ := own_slice hR8.k; exact ⟨_, _, _, h⟩
      subst hv8
      have HR8 : Hid _ := hR8
      have HS8 : Hid _ := hS8
      clear hR8 hS8
      have HC0 : (fun wz : World => wz.cell? ⟨g.rb, 2, none⟩ = some (g.vk) ∧ Blk wz (p) #[.int .i64 (m + 1), .int .i64 (x.me : Int)] 49) ({ W with drawn := W.drawn + 1 } : World) := ⟨HMD.out.c2, HBX.out⟩
      have hqn : (g.vk).ownBlock ≠ some (p) := fun e => HQN.out (.inr (.inl e))
      have HCA : (fun wz : World => wz.cell? ⟨g.rb, 2, none⟩ = some (g.vk) ∧ Blk wz (p) #[.int .i64 (m + 1), .int .i64 (x.me : Int)] 49) (World.alloc ({ W with drawn := W.drawn + 1 } : World) (.cells #[.int .i64 (m + 1), .int .i64 (x.me : Int)] 49)) := ⟨(Below.cell (Below.alloc (Below.refl _ _) (Nat.le_refl _) _) (World.block_lt_of_cell? _ _ HC0.1)).trans HC0.1, Blk.allc HC0.2 _⟩
      have HC9 : (fun wz : World => wz.cell? ⟨g.rb, 2, none⟩ = some (g.vk) ∧ Blk wz (p) #[.int .i64 (m + 1), .int .i64 (x.me : Int)] 49) w8 := ⟨(hB8.cell 2).trans rfl, hC8.blk HC0.2 hqn⟩
      refine wp_region_mix (fun wz : World => wz.cell? ⟨g.rb, 2, none⟩ = some (g.vk) ∧ Blk wz (p) #[.int .i64 (m + 1), .int .i64 (x.me : Int)] 49) (fun i => i == 6 || i == 7 || i == 10) 10 (by kernel_rfl) rfl (by kernel_rfl) (by kernel_rfl) (by kernel_rfl) ?_
      refine withFrP (N := 74) rfl ?_
      intro f0 F0 hff
      have ee0 : f0 0 = Value.pointer (some ⟨g.rb, 0, none⟩) := hff 0
      have ee1 : f0 14 = Value.pointer (some ⟨p, 0, none⟩) := hff 14
      clear hff
      refine lyp F0 rfl HC0 rfl (by omega) (wanted_none rfl) (v := Value.pointer (some ⟨g.rb, 0, none⟩)) (fun wr hwr => by simp only [execOp, (F0.eval 0 (by omega)).trans (show _ = Value.pointer (some ⟨g.rb, 0, none⟩) from by simp [upd, ee0, ee1])]; first | rfl | simp [go_sem]) fun F1 => ?_
      refine lyp F1 rfl HC0 rfl (by omega) (wanted_none rfl) (v := Value.pointer (some ⟨g.rb, 0, none⟩)) (fun wr hwr => by simp only [execOp, (F1.eval 0 (by omega)).trans (show _ = Value.pointer (some ⟨g.rb, 0, none⟩) from by simp [upd, ee0, ee1])]; first | rfl | simp [go_sem]) fun F2 => ?_
      refine lyp F2 rfl HC0 rfl (by omega) (wanted_none rfl) (v := Value.pointer (some ⟨g.rb, 0, none⟩)) (fun wr hwr => by simp only [execOp, (F2.eval 49 (by omega)).trans (show _ = Value.pointer (some ⟨g.rb, 0, none⟩) from by simp [upd, ee0, ee1])]; simp [go_sem]) fun F3 => ?_
      refine lyp F3 rfl HC0 rfl (by omega) (wanted_none rfl) (v := Value.pointer (some ⟨g.rb, 2, none⟩)) (fun wr hwr => by simp only [execOp, (F3.eval 50 (by omega)).trans (show _ = Value.pointer (some ⟨g.rb, 0, none⟩) from by simp [upd, ee0, ee1])]; simp [go_sem]) fun F4 => ?_
      refine lyp F4 rfl HC0 rfl (by omega) (wanted_none rfl) (v := (g.vk)) (fun wr hwr => by simp only [execOp, (F4.eval 51 (by omega)).trans (show _ = Value.pointer (some ⟨g.rb, 2, none⟩) from by simp [upd, ee0, ee1])]; simp [go_sem, hwr.1]) fun F5 => ?_
      refine lyp F5 rfl HC0 rfl (by omega) (wanted_none rfl) (v := Value.agg #[Value.int .i64 (m + 1), Value.int .i64 (x.me : Int)]) (fun wr hwr => by simp only [execOp, (F5.eval 14 (by omega)).trans (show _ = Value.pointer (some ⟨p, 0, none⟩) from by simp [upd, ee0, ee1])]; have h0 := hwr.2.cell 0; have h1 := hwr.2.cell 1; simp [go_sem, h0, h1]) fun F6 => ?_
      refine lep F6 rfl HC0 rfl (by omega) (wanted_none rfl) (v := Value.slice (some ⟨({ W with drawn := W.drawn + 1 } : World).heap.size, 0, none⟩) 1 1) (w1 := (World.alloc ({ W with drawn := W.drawn + 1 } : World) (.cells #[.int .i64 (m + 1), .int .i64 (x.me : Int)] 49))) (by simp only [execOp, List.map_toArray, List.map_cons, List.map_nil, (F6.eval 53 (by omega)).trans (show _ = Value.agg #[Value.int .i64 (m + 1), Value.int .i64 (x.me : Int)] from by simp [upd, ee0, ee1])]; simp [go_sem]) fun F7 => ?_
      refine lep F7 rfl HCA rfl (by omega) (wanted_none rfl) (v := Value.slice ao8 n8 c8) (w1 := w8) (by simp only [execOp, resolve, invoke, builtin, List.map_toArray, List.map_cons, List.map_nil, (F7.eval 52 (by omega)).trans (show _ = (g.vk) from by simp [upd, ee0, ee1]), (F7.eval 54 (by omega)).trans (show _ = Value.slice (some ⟨({ W with drawn := W.drawn + 1 } : World).heap.size, 0, none⟩) 1 1 from by simp [upd, ee0, ee1])]; simp only [Sem.run_bind, Sem.run_pure, Result.andThen_ok, hr8]; try rfl) fun F8 => ?_
      refine lyp F8 rfl HC9 rfl (by omega) (wanted_none rfl) (v := Value.pointer (some ⟨g.rb, 0, none⟩)) (fun wr hwr => by simp only [execOp, (F8.eval 48 (by omega)).trans (show _ = Value.pointer (some ⟨g.rb, 0, none⟩) from by simp [upd, ee0, ee1])]; simp [go_sem]) fun F9 => ?_
      refine lyp F9 rfl HC9 rfl (by omega) (wanted_none rfl) (v := Value.pointer (some ⟨g.rb, 2, none⟩)) (fun wr hwr => by simp only [execOp, (F9.eval 56 (by omega)).trans (show _ = Value.pointer (some ⟨g.rb, 0, none⟩) from by simp [upd, ee0, ee1])]; simp [go_sem]) fun F10 => ?_
      refine lst rfl HC9 rfl (wanted_none rfl) (w1 := w8.setCell ⟨g.rb, 2, none⟩ (Value.slice ao8 n8 c8)) (by simp only [execOp, (F10.eval 57 (by omega)).trans (show _ = Value.pointer (some ⟨g.rb, 2, none⟩) from by simp [upd, ee0, ee1]), (F10.eval 55 (by omega)).trans (show _ = Value.slice ao8 n8 c8 from by simp [upd, ee0, ee1])]; simp [go_sem, hB8.frozen 2, show w8.cell? ⟨g.rb, 2, none⟩ = some (g.vk) from HC9.1]) ?_
      refine ⟨fun h => by omega, ?_⟩
      refine hK _ _ ?_
      clear F0 F1 F2 F3 F4 F5 F6 F7 F8 F9 F10 ee0 ee1 HC0 HCA HC9 hr8 hB8 hqn hC8 HMD
      simp only [Act.put, List.setIfInBounds_toArray, List.set_cons_succ, List.set_cons_zero]
      have HW9 : Hid (Blk (w8.setCell ⟨g.rb, 2, none⟩ (Value.slice ao8 n8 c8)) p #[.int .i64 (m + 1), .int .i64 (x.me : Int)] 49) := show Blk _ _ _ _ from HS8.out.2.1.blk (Blk.up (w := W) HBX.out hDR) HQN.out
      have HS9 : Hid (RStp g { g with vk := Value.slice ao8 n8 c8 } w (w8.setCell ⟨g.rb, 2, none⟩ (Value.slice ao8 n8 c8))) := show RStp _ _ _ _ from (RStp.refl (bgo HBW.out hDR (Nat.le_refl _))).trans HS8.out
      generalize hW9 : w8.setCell ⟨g.rb, 2, none⟩ (Value.slice ao8 n8 c8) = W9 at *
      have HR9 : Hid (RM L { g with vk := Value.slice ao8 n8 c8 } { r with kn := r.kn ++ [⟨m + 1, (x.me : Int)⟩] } W9) := HR8.out
      have c5 := HR9.out.b.cell 5
      have hf5 := HR9.out.b.frozen 5
      replace c5 : W9.cell? ⟨g.rb, 5, none⟩ = some (.bool r.need) := c5
      replace hf5 : W9.frozen? ⟨g.rb, 5, none⟩ = false := hf5
      have hN := HR9.out.setNeed q
      have HN1 : Hid (RM L { g with vk := Value.slice ao8 n8 c8 } { r with kn := r.kn ++ [⟨m + 1, (x.me : Int)⟩], need := q } (W9.setCell ⟨g.rb, 5, none⟩ (.bool q))) := show RM _ _ _ _ from hN.1
      have HN2 : Hid (RStp g { g with vk := Value.slice ao8 n8 c8 } w (W9.setCell ⟨g.rb, 5, none⟩ (.bool q))) := show RStp _ _ _ _ from HS9.out.trans hN.2
      have HBQ : Hid (Blk (W9.setCell ⟨g.rb, 5, none⟩ (.bool q)) p #[.int .i64 (m + 1), .int .i64 (x.me : Int)] 49) := show Blk _ _ _ _ from Blk.oth HW9.out (fun e => HQN.out (.inl e)) _
      clear hN HR8 HS8 hW9 hDR HMX HBX
      go_upto_region 15 with fail
      have HLK : Hid _ := rlook_any (x := begY x q) l r' h _ HN1.out HAB.out (HX.out.begY q)
      generalize hWA : W9.setCell ⟨g.rb, 5, none⟩ (.bool q) = WA at *
      have HLK2 : Hid (Calls Try.prog 51 #[.pointer (some ⟨g.rb, 0, none⟩), .int .i64 l, .int .i64 r', .int .i64 h] WA _) := HLK.out
      clear hWA c5 hf5 HLK
      unfold lookA at HLK2
      rw [HD4.out] at HLK2
      rw [if_neg (by decide)] at HLK2
      go_upto_region 17 with (first
        | (go_at_call 51; refine Calls.mono HLK2.out ?_; rintro e w5 ⟨v5, rfl, ho5, hb5⟩; obtain ⟨ao5, c5, hv5, _⟩ := own_slice ho5; have HB5 : Hid _ := hb5; clear ho5 hb5; subst hv5)
        | fail)
      have hq5 := Blk.up (w := WA) HBQ.out HB5.out
      have q0 := hq5.cell 0
      have q1 := hq5.cell 1
      clear hq5
      go_wp2_with fail
      go_ret2
      have hr := lit_row w5 [⟨1, -1, ⟨m + 1, x.me⟩, e0⟩] _ rfl (by simp) 1 rfl
      have hbz : Below w5.heap.size w5 (w5.alloc (.cells (flatA [⟨1, -1, ⟨m + 1, x.me⟩, e0⟩]).toArray 117)) := (Below.refl _ _).alloc (Nat.le_refl _) _
      have hs5 := (HN2.out.trans (RStp.refl HB5.out)).trans (RStp.refl hbz)
      rw [HEX.out]
      exact ⟨_, rfl, ownsRow_mono hr (Nat.le_trans HN2.out.2.1.size HB5.out.size), _, (HN1.out.more HB5.out).more hbz, hs5⟩
theorem liveE_begY {x : EV} {r : RV} (ha : Agr x r) (hx : x.Nm) (q : Bool) : liveE (begY x q) x.me = ⟨lastR x.kn 16 + 1, x.me⟩ := by
  show (if up x.kn x.me (lastR x.kn 16 + 1) x.me = x.fi x.me then e0 else ⟨up x.kn x.me (lastR x.kn 16 + 1) x.me, x.me⟩) = _
  have hle := lastR_le (f := x.kn) 16 x.me (by have := hx.me; have := hx.n; omega)
  have := ha.fk x.me
  rw [up_at, if_neg (by omega)]
theorem rbeg_any {L : Nat} {g : RG} {x : EV} {r : RV} (l r' h : Int) (q : Bool) (w : World) (hM : RM L g r w) (ha : Agr x r) (hx : x.Nm) (hlen : r.kn.length ≤ 999999990) : Calls Try.prog 47 #[.pointer (some ⟨g.rb, 0, none⟩), .int .i64 l, .int .i64 r', .int .i64 h, .bool q] w fun e w' => ∃ v, e = .returned (.tuple #[v, .int .i64 (begC x l r' h)]) ∧ w'.ownsRow w.heap.size 117 6 v (begA x l r' h q).length (flatA (begA x l r' h q)) ∧ ∃ g', RM L g' (begR x r l r' h q) w' ∧ RStp g g' w w' := by
  have no : ∀ {e : Ending} {w' : World} {c : Int}, begC x l r' h = c → c ≠ 0 → (e = .returned (.tuple #[.slice none 0 0, .int .i64 c]) ∧ Below w.heap.size w w') → ∃ v, e = .returned (.tuple #[v, .int .i64 (begC x l r' h)]) ∧ w'.ownsRow w.heap.size 117 6 v (begA x l r' h q).length (flatA (begA x l r' h q)) ∧ ∃ g', RM L g' (begR x r l r' h q) w' ∧ RStp g g' w w' := by
    rintro e w' c hc hc0 ⟨rfl, hb⟩
    unfold begA begR
    rw [hc, if_neg hc0, if_neg hc0]
    exact ⟨_, rfl, World.ownsRow_nil _ _ _ _, g, hM.more hb, RStp.refl hb⟩
  cases d1 : cnts l r' h
  · exact (rbeg_1 l r' h q w hM ha hx d1).mono fun e w' hp => no (by unfold begC; rw [if_pos d1]) (by decide) hp
  · by_cases d2 : tgtE x x.n = e0
    · by_cases d3 : 1099511627776 < lastR x.kn 16 + 1
      · exact (rbeg_3 l r' h q w hM ha hx d1 d2 d3).mono fun e w' hp => no (by unfold begC; rw [if_neg (by rw [d1]; decide), if_neg (fun k => k d2), if_pos d3]) (by decide) hp
      · have hc : begC x l r' h = 0 := by unfold begC; rw [if_neg (by rw [d1]; decide), if_neg (fun k => k d2), if_neg d3]
        unfold begA begR
        rw [hc, if_pos rfl, if_pos rfl]
        cases d4 : hasB (begY x q) l r' h
        · rw [if_neg (by decide), liveE_begY ha hx q]
          exact rbeg_5 l r' h q w hM ha hx hlen d1 d2 (by omega) d4
        · rw [if_pos rfl]
          exact rbeg_4 l r' h q w hM ha hx hlen d1 d2 (by omega) d4
    · exact (rbeg_2 l r' h q w hM ha hx d1 d2).mono fun e w' hp => no (by unfold begC; rw [if_neg (by rw [d1]; decide), if_pos d2]) (by decide) hp
end Go.Proofs.Ytjojhhkbebddmaa
