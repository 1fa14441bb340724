import Derived.Test.YtneiomimjgfbpaaJJ
import Derived.Test.YtneiomimjgfbpaaJH
namespace Go.Proofs.Ytneiomimjgfbpaa
open Go.RowKit Go.PlainAid
set_option linter.unusedSimpArgs false
set_option linter.unusedVariables false
set_option maxRecDepth 100000 in
set_option maxHeartbeats 3200000 in
theorem renc_4 (m : Msg) (ao : Option Addr) (cv : Nat) (w : World) (hf : Fit m) (hsrc : VFrom w ao m.views) (hsb : ∀ b o, ao = some ⟨b, o, none⟩ → b < w.heap.size) (hv : validB m = true) (hk : m.kind = 4) :
    Calls Try.prog 62 #[.agg (msgCells m (.slice ao m.views.length cv))] w (EncPost (message.wr m) w) := by
  have hco : nameB m.name = true ∧ inB m.cap 1 1099511627776 = true ∧ inB m.recaps 0 1099511627776 = true ∧ rightsB m.down m.up = true ∧ inB m.held 0 1099511627776 = true ∧ (inB m.kind 3 7 = false ∨ epochB m.round m.rank = true) ∧ (m.kind ≠ 7 ∨ epochB m.oround m.orank = true) := by
    have h := hv
    unfold validB at h
    rw [if_neg (by omega), if_neg (by omega), if_neg (by omega)] at h
    simp only [knownB, Bool.and_eq_true, Bool.or_eq_true, Bool.not_eq_true', bne_iff_ne] at h
    exact ⟨h.2.1.1.1.1.1.1, h.2.1.1.1.1.1.2, h.2.1.1.1.1.2, h.2.1.1.1.2, h.2.1.1.2, h.2.1.2, h.2.2⟩
  obtain ⟨hn1, hn2, hn3, hn4, hn5, hn6, hn7⟩ := hco
  have wn := name_put hn1
  have hs16 : m.name.length ≤ 16 := by simp only [nameB, Bool.and_eq_true, decide_eq_true_eq] at hn1; omega
  obtain ⟨c, ec, bc, r, er, br, wc⟩ := two_put (lo := 1) (hi := 1099511627776) (lo' := 0) (hi' := 1099511627776) hn2 hn3
  have he : epochB m.round m.rank = true := hn6.resolve_left (by rw [hk]; decide)
  simp only [epochB, Bool.and_eq_true] at he
  obtain ⟨e0, ee0, be0, e1, ee1, be1, we⟩ := two_put (lo := 1) (hi := 1099511627776) (lo' := 0) (hi' := 15) he.1 he.2
  simp only [rightsB, Bool.and_eq_true] at hn4
  obtain ⟨r0, er0, br0, r1, er1, br1, wr'⟩ := two_put (lo := 0) (hi := 1099511627776) (lo' := 0) (hi' := 1099511627776) hn4.1 hn4.2
  have wh := num_put (lo := 0) (hi := 1099511627776) hn5
  obtain ⟨h0, eh0, th0, bh0⟩ := in_nat (lo := 0) (hi := 1099511627776) hn5
  rw [th0] at wh
  have hwr : message.wr m = some (put 4 ++ ((put m.name.length ++ m.name) ++ ((put c ++ put r) ++ ((put e0 ++ put e1) ++ ((put r0 ++ put r1) ++ (put h0)))))) := by
    have hs : (message.wr m).isSome = true := by rw [validB_is m hf.a1 hf.a2 hf.b1 hf.b2, hv]
    have hb : bodyW m = some ((put m.name.length ++ m.name) ++ ((put c ++ put r) ++ ((put e0 ++ put e1) ++ ((put r0 ++ put r1) ++ (put h0))))) := by
      unfold bodyW
      rw [if_neg (by omega), if_neg (by omega), if_neg (by omega), if_pos hk]
      rw [wn, (show caps.wr (m.cap, m.recaps) = _ from wc), (show epoch.wr (m.round, m.rank) = _ from we), (show rights.wr (m.down, m.up) = _ from wr'), (show held.wr m.held = _ from wh)]
      rfl
    have hn : (num 1 10).wr m.kind = some (put 4) := by rw [hk]; exact num_put (by decide)
    rw [enc_is] at hs ⊢
    unfold encM fieldsW at hs ⊢
    rw [hb, hn] at hs ⊢
    simp only [join] at hs ⊢
    split at hs
    · rename_i h; rw [if_pos h]
    · cases hs
  rw [hwr]
  have hl := hf.name
  have hol := hf.oname
  have hnm := hf.names
  have hb0 : ∀ D, Below w.heap.size w (w.alloc (.cells D 35)) := fun D => (Below.refl _ _).alloc (Nat.le_refl _) _
  have hr := rvalid_any m ao cv (w.alloc (.cells (msgCells m (.slice ao m.views.length cv)) 35)) hl hol (hsrc.keep fun b o e => (hb0 _).block b (hsb b o e)) (fun b o e => by rw [World.size_alloc]; have := hsb b o e; omega) hnm
  rw [hv] at hr
  have hsz : (msgCells m (.slice ao m.views.length cv)).size = 20 := rfl
  have hDs : ∀ W b, Blk W b (msgCells m (.slice ao m.views.length cv)) 35 → W.cell? ⟨b, 1, none⟩ = some (.string ⟨m.name.toArray⟩) ∧ W.cell? ⟨b, 2, none⟩ = some (.int .i64 (c : Nat)) ∧ W.cell? ⟨b, 3, none⟩ = some (.int .i64 (r : Nat)) ∧ W.cell? ⟨b, 4, none⟩ = some (.int .i64 (e0 : Nat)) ∧ W.cell? ⟨b, 5, none⟩ = some (.int .i64 (e1 : Nat)) ∧ W.cell? ⟨b, 8, none⟩ = some (.int .i64 (r0 : Nat)) ∧ W.cell? ⟨b, 9, none⟩ = some (.int .i64 (r1 : Nat)) ∧ W.cell? ⟨b, 10, none⟩ = some (.int .i64 (h0 : Nat)) := by
    intro W b h
    rw [← ec, ← er, ← ee0, ← ee1, ← er0, ← er1, ← eh0]
    exact ⟨h.cell 1, h.cell 2, h.cell 3, h.cell 4, h.cell 5, h.cell 8, h.cell 9, h.cell 10⟩
  have hD0 : (msgCells m (.slice ao m.views.length cv))[0]? = some (.int .i64 4) := by rw [← hk]; rfl
  generalize hD : msgCells m (.slice ao m.views.length cv) = D at *
  have hi : (Try.prog.info? 35).map (·.size) = some D.size := by rw [hsz]; kernel_rfl
  have hB : Blk (w.alloc (.cells D 35)) w.heap.size D 35 := heap_alloc_new w _
  have HH : Hid _ := And.intro hr (And.intro hb0 hDs)
  have H0 : Hid _ := hD0
  clear hr hb0 hsrc hsb hnm hl hol hD hDs hwr wn wc we wr' wh hn1 hn2 hn3 hn4 hn5 hn6 hn7 hv hk hD0 ec er ee0 ee1 er0 er1 eh0
  go_enter Try.func62, Try.ntmps62
  go_wp2_with (first | (refine wpList_load_row rfl 35 (.tmp 1) rfl w.heap.size rfl 35 D (0, 0) _ hB Try.underlying35 rfl hi ?_) | fail)
  refine Calls.mono HH.out.1 ?_
  rintro e5 W0 ⟨rfl, hb5⟩
  have hB0 : Blk W0 w.heap.size D 35 := (hb5.block _ hB.lt).trans hB
  have hL0 : Below w.heap.size w W0 := (HH.out.2.1 _).trans (hb5.mono (HH.out.2.1 _).size)
  obtain ⟨BX, hBX⟩ : ∃ BX, BX = [(w.heap.size, D, (35 : TypeId))] := ⟨_, rfl⟩
  have hcx : ∀ wr, CX BX wr → Blk wr w.heap.size D 35 := fun wr hwr => hwr _ (by rw [hBX]; exact List.mem_cons_self)
  have G0 : WG W0 w.heap.size (.slice none 0 0) BX (.slice none 0 0) [] W0 := WG.of (World.ownsRow_nil _ _ _ _) hL0.size (fun x hx => by rw [hBX] at hx; simp only [List.mem_cons, List.not_mem_nil, or_false] at hx; rw [hx]; exact hB0) (fun x _ e => by cases e)
  have hp := plain_step G0 [4] #[.int .i64 4] rfl (by intro x hx; simp at hx; omega) (by simp)
  rw [show plainW [4] = put 4 from by simp [plainW], List.nil_append] at hp
  have c0 : W0.cell? ⟨w.heap.size, 0, none⟩ = some (.int .i64 4) := (hB0.cell 0).trans H0.out
  have HP : Hid _ := And.intro hp (And.intro hL0 hcx)
  clear hp hL0 G0 hB hb5 hB0 hBX hcx
  go_wp2_with fail
  refine (show Calls Try.prog 83 #[.slice none 0 0, .slice (some ⟨W0.heap.size, 0, none⟩) 1 1] _ _ from HP.out.1).mono ?_
  rintro e1 w1 ⟨v1, rfl, G1⟩
  have c1 : w1.cell? ⟨w.heap.size, 0, none⟩ = some (.int .i64 4) := ((HP.out.2.2 _ G1.cx).cell 0).trans H0.out
  have HG : Hid _ := G1
  clear G1 c0
  go_wp2_with fail
  rename_i K hK
  have hlk := (put_len 4 (by omega)).2.1
  refine enc20 (s := m.name) (c := c) (r := r) (Fr.ofLit _ rfl) rfl rfl HG.out (fun wr hwr => ?_) hs16 (by omega) (by omega) (by omega) ?_
  · have h := HH.out.2.2 wr _ (HP.out.2.2 wr hwr)
    exact ⟨h.1, h.2.1, h.2.2.1⟩
  intro a2 f2 W2 v2 F2 k1 k4 G2
  refine hK _ _ ?_
  clear hK HG c1
  rw [F2.lit, lit150 f2, k1, k4]
  have hl20 : (put 4 ++ (put m.name.length ++ m.name) ++ (put c ++ put r)).length ≤ 100 := by
    have h1 := (put_len c (by omega)).2.1
    have h2 := (put_len r (by omega)).2.1
    have h3 := (put_len m.name.length (by omega)).2.1
    simp only [List.length_append]
    omega
  have hc2 := HP.out.2.2 _ G2.cx
  have d2 : W2.cell? ⟨w.heap.size, 0, none⟩ = some (.int .i64 4) := (hc2.cell 0).trans H0.out
  have d2e0 : W2.cell? ⟨w.heap.size, 4, none⟩ = some (.int .i64 (e0 : Nat)) := by have h := HH.out.2.2 _ _ hc2; exact h.2.2.2.1
  have d2e1 : W2.cell? ⟨w.heap.size, 5, none⟩ = some (.int .i64 (e1 : Nat)) := by have h := HH.out.2.2 _ _ hc2; exact h.2.2.2.2.1
  have hp2 := plain_step G2 [e0, e1] #[.int .i64 (e0 : Nat), .int .i64 (e1 : Nat)] rfl (by intro x hx; simp at hx; omega) (by simp only [List.length_cons, List.length_nil]; omega)
  rw [show plainW [e0, e1] = put e0 ++ put e1 from by simp [plainW]] at hp2
  have HG2 : Hid _ := hp2
  clear hp2 hc2 G2 k1 k4
  go_wp2_with fail
  refine (show Calls Try.prog 83 #[v2, .slice (some ⟨W2.heap.size, 0, none⟩) 2 2] _ _ from HG2.out).mono ?_
  rintro e3 W3 ⟨v3, rfl, G3⟩
  have hl3 : ((put 4 ++ (put m.name.length ++ m.name) ++ (put c ++ put r)) ++ (put e0 ++ put e1)).length ≤ 130 := by
    have h1 := (put_len e0 (by omega)).2.1
    have h2 := (put_len e1 (by omega)).2.1
    rw [List.length_append]
    simp only [List.length_append] at hl20 ⊢
    omega
  clear d2 d2e0 d2e1 HG2
  have hc3 := HP.out.2.2 _ G3.cx
  have d3 : W3.cell? ⟨w.heap.size, 0, none⟩ = some (.int .i64 4) := (hc3.cell 0).trans H0.out
  have d3r0 : W3.cell? ⟨w.heap.size, 8, none⟩ = some (.int .i64 (r0 : Nat)) := by have h := HH.out.2.2 _ _ hc3; exact h.2.2.2.2.2.1
  have d3r1 : W3.cell? ⟨w.heap.size, 9, none⟩ = some (.int .i64 (r1 : Nat)) := by have h := HH.out.2.2 _ _ hc3; exact h.2.2.2.2.2.2.1
  have hp3 := plain_step G3 [r0, r1] #[.int .i64 (r0 : Nat), .int .i64 (r1 : Nat)] rfl (by intro x hx; simp at hx; omega) (by simp only [List.length_cons, List.length_nil]; omega)
  rw [show plainW [r0, r1] = put r0 ++ put r1 from by simp [plainW]] at hp3
  have HG3 : Hid _ := hp3
  clear hp3 hc3 G3 
  go_wp2_with fail
  refine (show Calls Try.prog 83 #[v3, .slice (some ⟨W3.heap.size, 0, none⟩) 2 2] _ _ from HG3.out).mono ?_
  rintro e4 W4 ⟨v4, rfl, G4⟩
  have hl4 : (((put 4 ++ (put m.name.length ++ m.name) ++ (put c ++ put r)) ++ (put e0 ++ put e1)) ++ (put r0 ++ put r1)).length ≤ 160 := by
    have h1 := (put_len r0 (by omega)).2.1
    have h2 := (put_len r1 (by omega)).2.1
    rw [List.length_append]
    simp only [List.length_append] at hl3 ⊢
    omega
  clear d3 d3r0 d3r1 HG3
  have hc4 := HP.out.2.2 _ G4.cx
  have d4 : W4.cell? ⟨w.heap.size, 0, none⟩ = some (.int .i64 4) := (hc4.cell 0).trans H0.out
  have d4h0 : W4.cell? ⟨w.heap.size, 10, none⟩ = some (.int .i64 (h0 : Nat)) := by have h := HH.out.2.2 _ _ hc4; exact h.2.2.2.2.2.2.2
  have hp4 := plain_step G4 [h0] #[.int .i64 (h0 : Nat)] rfl (by intro x hx; simp at hx; omega) (by simp only [List.length_cons, List.length_nil]; omega)
  rw [show plainW [h0] = put h0 from by simp [plainW]] at hp4
  have HG4 : Hid _ := hp4
  clear hp4 hc4 G4 
  go_wp2_with fail
  refine (show Calls Try.prog 83 #[v4, .slice (some ⟨W4.heap.size, 0, none⟩) 1 1] _ _ from HG4.out).mono ?_
  rintro e5 W5 ⟨v5, rfl, G5⟩
  have hl5 : ((((put 4 ++ (put m.name.length ++ m.name) ++ (put c ++ put r)) ++ (put e0 ++ put e1)) ++ (put r0 ++ put r1)) ++ (put h0)).length ≤ 190 := by
    have h1 := (put_len h0 (by omega)).2.1
    rw [List.length_append]
    simp only [List.length_append] at hl4 ⊢
    omega
  clear d4 d4h0 HG4
  have hc5 := HP.out.2.2 _ G5.cx
  have d5 : W5.cell? ⟨w.heap.size, 0, none⟩ = some (.int .i64 4) := (hc5.cell 0).trans H0.out
  have hbY := G5.grew.below (base := w.heap.size) (by intro j e; cases e) (by have := HP.out.2.1.size; omega)
  have hfin : EncPost (some (put 4 ++ ((put m.name.length ++ m.name) ++ ((put c ++ put r) ++ ((put e0 ++ put e1) ++ ((put r0 ++ put r1) ++ (put h0))))))) w (.returned (.tuple #[v5, .int .i64 0])) W5 := ⟨HP.out.2.1.trans hbY, v5, rfl, by simpa [List.append_assoc] using G5.own⟩
  have HF : Hid _ := hfin
  clear hfin hbY G5 hc5
  go_wp2
  go_ret2
  have hx := HF.out
  simp only [List.append_assoc] at hx ⊢
  exact hx
end Go.Proofs.Ytneiomimjgfbpaa
namespace Go.Proofs.Ytneiomimjgfbpaa
open Go.RowKit Go.PlainAid
set_option linter.unusedSimpArgs false
set_option linter.unusedVariables false
set_option maxRecDepth 100000 in
set_option maxHeartbeats 3200000 in
theorem renc_5 (m : Msg) (ao : Option Addr) (cv : Nat) (w : World) (hf : Fit m) (hsrc : VFrom w ao m.views) (hsb : ∀ b o, ao = some ⟨b, o, none⟩ → b < w.heap.size) (hv : validB m = true) (hk : m.kind = 5) :
    Calls Try.prog 62 #[.agg (msgCells m (.slice ao m.views.length cv))] w (EncPost (message.wr m) w) := by
  have hco : nameB m.name = true ∧ inB m.cap 1 1099511627776 = true ∧ inB m.recaps 0 1099511627776 = true ∧ rightsB m.down m.up = true ∧ inB m.held 0 1099511627776 = true ∧ (inB m.kind 3 7 = false ∨ epochB m.round m.rank = true) ∧ (m.kind ≠ 7 ∨ epochB m.oround m.orank = true) := by
    have h := hv
    unfold validB at h
    rw [if_neg (by omega), if_neg (by omega), if_neg (by omega)] at h
    simp only [knownB, Bool.and_eq_true, Bool.or_eq_true, Bool.not_eq_true', bne_iff_ne] at h
    exact ⟨h.2.1.1.1.1.1.1, h.2.1.1.1.1.1.2, h.2.1.1.1.1.2, h.2.1.1.1.2, h.2.1.1.2, h.2.1.2, h.2.2⟩
  obtain ⟨hn1, hn2, hn3, hn4, hn5, hn6, hn7⟩ := hco
  have wn := name_put hn1
  have hs16 : m.name.length ≤ 16 := by simp only [nameB, Bool.and_eq_true, decide_eq_true_eq] at hn1; omega
  obtain ⟨c, ec, bc, r, er, br, wc⟩ := two_put (lo := 1) (hi := 1099511627776) (lo' := 0) (hi' := 1099511627776) hn2 hn3
  have he : epochB m.round m.rank = true := hn6.resolve_left (by rw [hk]; decide)
  simp only [epochB, Bool.and_eq_true] at he
  obtain ⟨e0, ee0, be0, e1, ee1, be1, we⟩ := two_put (lo := 1) (hi := 1099511627776) (lo' := 0) (hi' := 15) he.1 he.2
  simp only [rightsB, Bool.and_eq_true] at hn4
  obtain ⟨r0, er0, br0, r1, er1, br1, wr'⟩ := two_put (lo := 0) (hi := 1099511627776) (lo' := 0) (hi' := 1099511627776) hn4.1 hn4.2
  have hwr : message.wr m = some (put 5 ++ ((put m.name.length ++ m.name) ++ ((put c ++ put r) ++ ((put e0 ++ put e1) ++ (put r0 ++ put r1))))) := by
    have hs : (message.wr m).isSome = true := by rw [validB_is m hf.a1 hf.a2 hf.b1 hf.b2, hv]
    have hb : bodyW m = some ((put m.name.length ++ m.name) ++ ((put c ++ put r) ++ ((put e0 ++ put e1) ++ (put r0 ++ put r1)))) := by
      unfold bodyW
      rw [if_neg (by omega), if_neg (by omega), if_neg (by omega), if_neg (by omega), if_neg (by omega), if_neg (by omega), if_neg (by omega)]
      rw [wn, (show caps.wr (m.cap, m.recaps) = _ from wc), (show epoch.wr (m.round, m.rank) = _ from we), (show rights.wr (m.down, m.up) = _ from wr')]
      rfl
    have hn : (num 1 10).wr m.kind = some (put 5) := by rw [hk]; exact num_put (by decide)
    rw [enc_is] at hs ⊢
    unfold encM fieldsW at hs ⊢
    rw [hb, hn] at hs ⊢
    simp only [join] at hs ⊢
    split at hs
    · rename_i h; rw [if_pos h]
    · cases hs
  rw [hwr]
  have hl := hf.name
  have hol := hf.oname
  have hnm := hf.names
  have hb0 : ∀ D, Below w.heap.size w (w.alloc (.cells D 35)) := fun D => (Below.refl _ _).alloc (Nat.le_refl _) _
  have hr := rvalid_any m ao cv (w.alloc (.cells (msgCells m (.slice ao m.views.length cv)) 35)) hl hol (hsrc.keep fun b o e => (hb0 _).block b (hsb b o e)) (fun b o e => by rw [World.size_alloc]; have := hsb b o e; omega) hnm
  rw [hv] at hr
  have hsz : (msgCells m (.slice ao m.views.length cv)).size = 20 := rfl
  have hDs : ∀ W b, Blk W b (msgCells m (.slice ao m.views.length cv)) 35 → W.cell? ⟨b, 1, none⟩ = some (.string ⟨m.name.toArray⟩) ∧ W.cell? ⟨b, 2, none⟩ = some (.int .i64 (c : Nat)) ∧ W.cell? ⟨b, 3, none⟩ = some (.int .i64 (r : Nat)) ∧ W.cell? ⟨b, 4, none⟩ = some (.int .i64 (e0 : Nat)) ∧ W.cell? ⟨b, 5, none⟩ = some (.int .i64 (e1 : Nat)) ∧ W.cell? ⟨b, 8, none⟩ = some (.int .i64 (r0 : Nat)) ∧ W.cell? ⟨b, 9, none⟩ = some (.int .i64 (r1 : Nat)) := by
    intro W b h
    rw [← ec, ← er, ← ee0, ← ee1, ← er0, ← er1]
    exact ⟨h.cell 1, h.cell 2, h.cell 3, h.cell 4, h.cell 5, h.cell 8, h.cell 9⟩
  have hD0 : (msgCells m (.slice ao m.views.length cv))[0]? = some (.int .i64 5) := by rw [← hk]; rfl
  generalize hD : msgCells m (.slice ao m.views.length cv) = D at *
  have hi : (Try.prog.info? 35).map (·.size) = some D.size := by rw [hsz]; kernel_rfl
  have hB : Blk (w.alloc (.cells D 35)) w.heap.size D 35 := heap_alloc_new w _
  have HH : Hid _ := And.intro hr (And.intro hb0 hDs)
  have H0 : Hid _ := hD0
  clear hr hb0 hsrc hsb hnm hl hol hD hDs hwr wn wc we wr' hn1 hn2 hn3 hn4 hn5 hn6 hn7 hv hk hD0 ec er ee0 ee1 er0 er1
  go_enter Try.func62, Try.ntmps62
  go_wp2_with (first | (refine wpList_load_row rfl 35 (.tmp 1) rfl w.heap.size rfl 35 D (0, 0) _ hB Try.underlying35 rfl hi ?_) | fail)
  refine Calls.mono HH.out.1 ?_
  rintro e5 W0 ⟨rfl, hb5⟩
  have hB0 : Blk W0 w.heap.size D 35 := (hb5.block _ hB.lt).trans hB
  have hL0 : Below w.heap.size w W0 := (HH.out.2.1 _).trans (hb5.mono (HH.out.2.1 _).size)
  obtain ⟨BX, hBX⟩ : ∃ BX, BX = [(w.heap.size, D, (35 : TypeId))] := ⟨_, rfl⟩
  have hcx : ∀ wr, CX BX wr → Blk wr w.heap.size D 35 := fun wr hwr => hwr _ (by rw [hBX]; exact List.mem_cons_self)
  have G0 : WG W0 w.heap.size (.slice none 0 0) BX (.slice none 0 0) [] W0 := WG.of (World.ownsRow_nil _ _ _ _) hL0.size (fun x hx => by rw [hBX] at hx; simp only [List.mem_cons, List.not_mem_nil, or_false] at hx; rw [hx]; exact hB0) (fun x _ e => by cases e)
  have hp := plain_step G0 [5] #[.int .i64 5] rfl (by intro x hx; simp at hx; omega) (by simp)
  rw [show plainW [5] = put 5 from by simp [plainW], List.nil_append] at hp
  have c0 : W0.cell? ⟨w.heap.size, 0, none⟩ = some (.int .i64 5) := (hB0.cell 0).trans H0.out
  have HP : Hid _ := And.intro hp (And.intro hL0 hcx)
  clear hp hL0 G0 hB hb5 hB0 hBX hcx
  go_wp2_with fail
  refine (show Calls Try.prog 83 #[.slice none 0 0, .slice (some ⟨W0.heap.size, 0, none⟩) 1 1] _ _ from HP.out.1).mono ?_
  rintro e1 w1 ⟨v1, rfl, G1⟩
  have c1 : w1.cell? ⟨w.heap.size, 0, none⟩ = some (.int .i64 5) := ((HP.out.2.2 _ G1.cx).cell 0).trans H0.out
  have HG : Hid _ := G1
  clear G1 c0
  go_wp2_with fail
  rename_i K hK
  have hlk := (put_len 5 (by omega)).2.1
  refine enc20 (s := m.name) (c := c) (r := r) (Fr.ofLit _ rfl) rfl rfl HG.out (fun wr hwr => ?_) hs16 (by omega) (by omega) (by omega) ?_
  · have h := HH.out.2.2 wr _ (HP.out.2.2 wr hwr)
    exact ⟨h.1, h.2.1, h.2.2.1⟩
  intro a2 f2 W2 v2 F2 k1 k4 G2
  refine hK _ _ ?_
  clear hK HG c1
  rw [F2.lit, lit150 f2, k1, k4]
  have hl20 : (put 5 ++ (put m.name.length ++ m.name) ++ (put c ++ put r)).length ≤ 100 := by
    have h1 := (put_len c (by omega)).2.1
    have h2 := (put_len r (by omega)).2.1
    have h3 := (put_len m.name.length (by omega)).2.1
    simp only [List.length_append]
    omega
  have hc2 := HP.out.2.2 _ G2.cx
  have d2 : W2.cell? ⟨w.heap.size, 0, none⟩ = some (.int .i64 5) := (hc2.cell 0).trans H0.out
  have d2e0 : W2.cell? ⟨w.heap.size, 4, none⟩ = some (.int .i64 (e0 : Nat)) := by have h := HH.out.2.2 _ _ hc2; exact h.2.2.2.1
  have d2e1 : W2.cell? ⟨w.heap.size, 5, none⟩ = some (.int .i64 (e1 : Nat)) := by have h := HH.out.2.2 _ _ hc2; exact h.2.2.2.2.1
  have hp2 := plain_step G2 [e0, e1] #[.int .i64 (e0 : Nat), .int .i64 (e1 : Nat)] rfl (by intro x hx; simp at hx; omega) (by simp only [List.length_cons, List.length_nil]; omega)
  rw [show plainW [e0, e1] = put e0 ++ put e1 from by simp [plainW]] at hp2
  have HG2 : Hid _ := hp2
  clear hp2 hc2 G2 k1 k4
  go_wp2_with fail
  refine (show Calls Try.prog 83 #[v2, .slice (some ⟨W2.heap.size, 0, none⟩) 2 2] _ _ from HG2.out).mono ?_
  rintro e3 W3 ⟨v3, rfl, G3⟩
  have hl3 : ((put 5 ++ (put m.name.length ++ m.name) ++ (put c ++ put r)) ++ (put e0 ++ put e1)).length ≤ 130 := by
    have h1 := (put_len e0 (by omega)).2.1
    have h2 := (put_len e1 (by omega)).2.1
    rw [List.length_append]
    simp only [List.length_append] at hl20 ⊢
    omega
  clear d2 d2e0 d2e1 HG2
  have hc3 := HP.out.2.2 _ G3.cx
  have d3 : W3.cell? ⟨w.heap.size, 0, none⟩ = some (.int .i64 5) := (hc3.cell 0).trans H0.out
  have d3r0 : W3.cell? ⟨w.heap.size, 8, none⟩ = some (.int .i64 (r0 : Nat)) := by have h := HH.out.2.2 _ _ hc3; exact h.2.2.2.2.2.1
  have d3r1 : W3.cell? ⟨w.heap.size, 9, none⟩ = some (.int .i64 (r1 : Nat)) := by have h := HH.out.2.2 _ _ hc3; exact h.2.2.2.2.2.2
  have hp3 := plain_step G3 [r0, r1] #[.int .i64 (r0 : Nat), .int .i64 (r1 : Nat)] rfl (by intro x hx; simp at hx; omega) (by simp only [List.length_cons, List.length_nil]; omega)
  rw [show plainW [r0, r1] = put r0 ++ put r1 from by simp [plainW]] at hp3
  have HG3 : Hid _ := hp3
  clear hp3 hc3 G3 
  go_wp2_with fail
  refine (show Calls Try.prog 83 #[v3, .slice (some ⟨W3.heap.size, 0, none⟩) 2 2] _ _ from HG3.out).mono ?_
  rintro e4 W4 ⟨v4, rfl, G4⟩
  have hl4 : (((put 5 ++ (put m.name.length ++ m.name) ++ (put c ++ put r)) ++ (put e0 ++ put e1)) ++ (put r0 ++ put r1)).length ≤ 160 := by
    have h1 := (put_len r0 (by omega)).2.1
    have h2 := (put_len r1 (by omega)).2.1
    rw [List.length_append]
    simp only [List.length_append] at hl3 ⊢
    omega
  clear d3 d3r0 d3r1 HG3
  have hc4 := HP.out.2.2 _ G4.cx
  have d4 : W4.cell? ⟨w.heap.size, 0, none⟩ = some (.int .i64 5) := (hc4.cell 0).trans H0.out
  have hbY := G4.grew.below (base := w.heap.size) (by intro j e; cases e) (by have := HP.out.2.1.size; omega)
  have hfin : EncPost (some (put 5 ++ ((put m.name.length ++ m.name) ++ ((put c ++ put r) ++ ((put e0 ++ put e1) ++ (put r0 ++ put r1)))))) w (.returned (.tuple #[v4, .int .i64 0])) W4 := ⟨HP.out.2.1.trans hbY, v4, rfl, by simpa [List.append_assoc] using G4.own⟩
  have HF : Hid _ := hfin
  clear hfin hbY G4 hc4
  go_wp2
  go_ret2
  have hx := HF.out
  simp only [List.append_assoc] at hx ⊢
  exact hx
end Go.Proofs.Ytneiomimjgfbpaa
namespace Go.Proofs.Ytneiomimjgfbpaa
open Go.RowKit Go.PlainAid
set_option linter.unusedSimpArgs false
set_option linter.unusedVariables false
set_option maxRecDepth 100000 in
set_option maxHeartbeats 3200000 in
theorem renc_6 (m : Msg) (ao : Option Addr) (cv : Nat) (w : World) (hf : Fit m) (hsrc : VFrom w ao m.views) (hsb : ∀ b o, ao = some ⟨b, o, none⟩ → b < w.heap.size) (hv : validB m = true) (hk : m.kind = 6) :
    Calls Try.prog 62 #[.agg (msgCells m (.slice ao m.views.length cv))] w (EncPost (message.wr m) w) := by
  have hco : nameB m.name = true ∧ inB m.cap 1 1099511627776 = true ∧ inB m.recaps 0 1099511627776 = true ∧ rightsB m.down m.up = true ∧ inB m.held 0 1099511627776 = true ∧ (inB m.kind 3 7 = false ∨ epochB m.round m.rank = true) ∧ (m.kind ≠ 7 ∨ epochB m.oround m.orank = true) := by
    have h := hv
    unfold validB at h
    rw [if_neg (by omega), if_neg (by omega), if_neg (by omega)] at h
    simp only [knownB, Bool.and_eq_true, Bool.or_eq_true, Bool.not_eq_true', bne_iff_ne] at h
    exact ⟨h.2.1.1.1.1.1.1, h.2.1.1.1.1.1.2, h.2.1.1.1.1.2, h.2.1.1.1.2, h.2.1.1.2, h.2.1.2, h.2.2⟩
  obtain ⟨hn1, hn2, hn3, hn4, hn5, hn6, hn7⟩ := hco
  have wn := name_put hn1
  have hs16 : m.name.length ≤ 16 := by simp only [nameB, Bool.and_eq_true, decide_eq_true_eq] at hn1; omega
  obtain ⟨c, ec, bc, r, er, br, wc⟩ := two_put (lo := 1) (hi := 1099511627776) (lo' := 0) (hi' := 1099511627776) hn2 hn3
  have he : epochB m.round m.rank = true := hn6.resolve_left (by rw [hk]; decide)
  simp only [epochB, Bool.and_eq_true] at he
  obtain ⟨e0, ee0, be0, e1, ee1, be1, we⟩ := two_put (lo := 1) (hi := 1099511627776) (lo' := 0) (hi' := 15) he.1 he.2
  simp only [rightsB, Bool.and_eq_true] at hn4
  obtain ⟨r0, er0, br0, r1, er1, br1, wr'⟩ := two_put (lo := 0) (hi := 1099511627776) (lo' := 0) (hi' := 1099511627776) hn4.1 hn4.2
  have hwr : message.wr m = some (put 6 ++ ((put m.name.length ++ m.name) ++ ((put c ++ put r) ++ ((put e0 ++ put e1) ++ (put r0 ++ put r1))))) := by
    have hs : (message.wr m).isSome = true := by rw [validB_is m hf.a1 hf.a2 hf.b1 hf.b2, hv]
    have hb : bodyW m = some ((put m.name.length ++ m.name) ++ ((put c ++ put r) ++ ((put e0 ++ put e1) ++ (put r0 ++ put r1)))) := by
      unfold bodyW
      rw [if_neg (by omega), if_neg (by omega), if_neg (by omega), if_neg (by omega), if_neg (by omega), if_neg (by omega), if_neg (by omega)]
      rw [wn, (show caps.wr (m.cap, m.recaps) = _ from wc), (show epoch.wr (m.round, m.rank) = _ from we), (show rights.wr (m.down, m.up) = _ from wr')]
      rfl
    have hn : (num 1 10).wr m.kind = some (put 6) := by rw [hk]; exact num_put (by decide)
    rw [enc_is] at hs ⊢
    unfold encM fieldsW at hs ⊢
    rw [hb, hn] at hs ⊢
    simp only [join] at hs ⊢
    split at hs
    · rename_i h; rw [if_pos h]
    · cases hs
  rw [hwr]
  have hl := hf.name
  have hol := hf.oname
  have hnm := hf.names
  have hb0 : ∀ D, Below w.heap.size w (w.alloc (.cells D 35)) := fun D => (Below.refl _ _).alloc (Nat.le_refl _) _
  have hr := rvalid_any m ao cv (w.alloc (.cells (msgCells m (.slice ao m.views.length cv)) 35)) hl hol (hsrc.keep fun b o e => (hb0 _).block b (hsb b o e)) (fun b o e => by rw [World.size_alloc]; have := hsb b o e; omega) hnm
  rw [hv] at hr
  have hsz : (msgCells m (.slice ao m.views.length cv)).size = 20 := rfl
  have hDs : ∀ W b, Blk W b (msgCells m (.slice ao m.views.length cv)) 35 → W.cell? ⟨b, 1, none⟩ = some (.string ⟨m.name.toArray⟩) ∧ W.cell? ⟨b, 2, none⟩ = some (.int .i64 (c : Nat)) ∧ W.cell? ⟨b, 3, none⟩ = some (.int .i64 (r : Nat)) ∧ W.cell? ⟨b, 4, none⟩ = some (.int .i64 (e0 : Nat)) ∧ W.cell? ⟨b, 5, none⟩ = some (.int .i64 (e1 : Nat)) ∧ W.cell? ⟨b, 8, none⟩ = some (.int .i64 (r0 : Nat)) ∧ W.cell? ⟨b, 9, none⟩ = some (.int .i64 (r1 : Nat)) := by
    intro W b h
    rw [← ec, ← er, ← ee0, ← ee1, ← er0, ← er1]
    exact ⟨h.cell 1, h.cell 2, h.cell 3, h.cell 4, h.cell 5, h.cell 8, h.cell 9⟩
  have hD0 : (msgCells m (.slice ao m.views.length cv))[0]? = some (.int .i64 6) := by rw [← hk]; rfl
  generalize hD : msgCells m (.slice ao m.views.length cv) = D at *
  have hi : (Try.prog.info? 35).map (·.size) = some D.size := by rw [hsz]; kernel_rfl
  have hB : Blk (w.alloc (.cells D 35)) w.heap.size D 35 := heap_alloc_new w _
  have HH : Hid _ := And.intro hr (And.intro hb0 hDs)
  have H0 : Hid _ := hD0
  clear hr hb0 hsrc hsb hnm hl hol hD hDs hwr wn wc we wr' hn1 hn2 hn3 hn4 hn5 hn6 hn7 hv hk hD0 ec er ee0 ee1 er0 er1
  go_enter Try.func62, Try.ntmps62
  go_wp2_with (first | (refine wpList_load_row rfl 35 (.tmp 1) rfl w.heap.size rfl 35 D (0, 0) _ hB Try.underlying35 rfl hi ?_) | fail)
  refine Calls.mono HH.out.1 ?_
  rintro e5 W0 ⟨rfl, hb5⟩
  have hB0 : Blk W0 w.heap.size D 35 := (hb5.block _ hB.lt).trans hB
  have hL0 : Below w.heap.size w W0 := (HH.out.2.1 _).trans (hb5.mono (HH.out.2.1 _).size)
  obtain ⟨BX, hBX⟩ : ∃ BX, BX = [(w.heap.size, D, (35 : TypeId))] := ⟨_, rfl⟩
  have hcx : ∀ wr, CX BX wr → Blk wr w.heap.size D 35 := fun wr hwr => hwr _ (by rw [hBX]; exact List.mem_cons_self)
  have G0 : WG W0 w.heap.size (.slice none 0 0) BX (.slice none 0 0) [] W0 := WG.of (World.ownsRow_nil _ _ _ _) hL0.size (fun x hx => by rw [hBX] at hx; simp only [List.mem_cons, List.not_mem_nil, or_false] at hx; rw [hx]; exact hB0) (fun x _ e => by cases e)
  have hp := plain_step G0 [6] #[.int .i64 6] rfl (by intro x hx; simp at hx; omega) (by simp)
  rw [show plainW [6] = put 6 from by simp [plainW], List.nil_append] at hp
  have c0 : W0.cell? ⟨w.heap.size, 0, none⟩ = some (.int .i64 6) := (hB0.cell 0).trans H0.out
  have HP : Hid _ := And.intro hp (And.intro hL0 hcx)
  clear hp hL0 G0 hB hb5 hB0 hBX hcx
  go_wp2_with fail
  refine (show Calls Try.prog 83 #[.slice none 0 0, .slice (some ⟨W0.heap.size, 0, none⟩) 1 1] _ _ from HP.out.1).mono ?_
  rintro e1 w1 ⟨v1, rfl, G1⟩
  have c1 : w1.cell? ⟨w.heap.size, 0, none⟩ = some (.int .i64 6) := ((HP.out.2.2 _ G1.cx).cell 0).trans H0.out
  have HG : Hid _ := G1
  clear G1 c0
  go_wp2_with fail
  rename_i K hK
  have hlk := (put_len 6 (by omega)).2.1
  refine enc20 (s := m.name) (c := c) (r := r) (Fr.ofLit _ rfl) rfl rfl HG.out (fun wr hwr => ?_) hs16 (by omega) (by omega) (by omega) ?_
  · have h := HH.out.2.2 wr _ (HP.out.2.2 wr hwr)
    exact ⟨h.1, h.2.1, h.2.2.1⟩
  intro a2 f2 W2 v2 F2 k1 k4 G2
  refine hK _ _ ?_
  clear hK HG c1
  rw [F2.lit, lit150 f2, k1, k4]
  have hl20 : (put 6 ++ (put m.name.length ++ m.name) ++ (put c ++ put r)).length ≤ 100 := by
    have h1 := (put_len c (by omega)).2.1
    have h2 := (put_len r (by omega)).2.1
    have h3 := (put_len m.name.length (by omega)).2.1
    simp only [List.length_append]
    omega
  have hc2 := HP.out.2.2 _ G2.cx
  have d2 : W2.cell? ⟨w.heap.size, 0, none⟩ = some (.int .i64 6) := (hc2.cell 0).trans H0.out
  have d2e0 : W2.cell? ⟨w.heap.size, 4, none⟩ = some (.int .i64 (e0 : Nat)) := by have h := HH.out.2.2 _ _ hc2; exact h.2.2.2.1
  have d2e1 : W2.cell? ⟨w.heap.size, 5, none⟩ = some (.int .i64 (e1 : Nat)) := by have h := HH.out.2.2 _ _ hc2; exact h.2.2.2.2.1
  have hp2 := plain_step G2 [e0, e1] #[.int .i64 (e0 : Nat), .int .i64 (e1 : Nat)] rfl (by intro x hx; simp at hx; omega) (by simp only [List.length_cons, List.length_nil]; omega)
  rw [show plainW [e0, e1] = put e0 ++ put e1 from by simp [plainW]] at hp2
  have HG2 : Hid _ := hp2
  clear hp2 hc2 G2 k1 k4
  go_wp2_with fail
  refine (show Calls Try.prog 83 #[v2, .slice (some ⟨W2.heap.size, 0, none⟩) 2 2] _ _ from HG2.out).mono ?_
  rintro e3 W3 ⟨v3, rfl, G3⟩
  have hl3 : ((put 6 ++ (put m.name.length ++ m.name) ++ (put c ++ put r)) ++ (put e0 ++ put e1)).length ≤ 130 := by
    have h1 := (put_len e0 (by omega)).2.1
    have h2 := (put_len e1 (by omega)).2.1
    rw [List.length_append]
    simp only [List.length_append] at hl20 ⊢
    omega
  clear d2 d2e0 d2e1 HG2
  have hc3 := HP.out.2.2 _ G3.cx
  have d3 : W3.cell? ⟨w.heap.size, 0, none⟩ = some (.int .i64 6) := (hc3.cell 0).trans H0.out
  have d3r0 : W3.cell? ⟨w.heap.size, 8, none⟩ = some (.int .i64 (r0 : Nat)) := by have h := HH.out.2.2 _ _ hc3; exact h.2.2.2.2.2.1
  have d3r1 : W3.cell? ⟨w.heap.size, 9, none⟩ = some (.int .i64 (r1 : Nat)) := by have h := HH.out.2.2 _ _ hc3; exact h.2.2.2.2.2.2
  have hp3 := plain_step G3 [r0, r1] #[.int .i64 (r0 : Nat), .int .i64 (r1 : Nat)] rfl (by intro x hx; simp at hx; omega) (by simp only [List.length_cons, List.length_nil]; omega)
  rw [show plainW [r0, r1] = put r0 ++ put r1 from by simp [plainW]] at hp3
  have HG3 : Hid _ := hp3
  clear hp3 hc3 G3 
  go_wp2_with fail
  refine (show Calls Try.prog 83 #[v3, .slice (some ⟨W3.heap.size, 0, none⟩) 2 2] _ _ from HG3.out).mono ?_
  rintro e4 W4 ⟨v4, rfl, G4⟩
  have hl4 : (((put 6 ++ (put m.name.length ++ m.name) ++ (put c ++ put r)) ++ (put e0 ++ put e1)) ++ (put r0 ++ put r1)).length ≤ 160 := by
    have h1 := (put_len r0 (by omega)).2.1
    have h2 := (put_len r1 (by omega)).2.1
    rw [List.length_append]
    simp only [List.length_append] at hl3 ⊢
    omega
  clear d3 d3r0 d3r1 HG3
  have hc4 := HP.out.2.2 _ G4.cx
  have d4 : W4.cell? ⟨w.heap.size, 0, none⟩ = some (.int .i64 6) := (hc4.cell 0).trans H0.out
  have hbY := G4.grew.below (base := w.heap.size) (by intro j e; cases e) (by have := HP.out.2.1.size; omega)
  have hfin : EncPost (some (put 6 ++ ((put m.name.length ++ m.name) ++ ((put c ++ put r) ++ ((put e0 ++ put e1) ++ (put r0 ++ put r1)))))) w (.returned (.tuple #[v4, .int .i64 0])) W4 := ⟨HP.out.2.1.trans hbY, v4, rfl, by simpa [List.append_assoc] using G4.own⟩
  have HF : Hid _ := hfin
  clear hfin hbY G4 hc4
  go_wp2
  go_ret2
  have hx := HF.out
  simp only [List.append_assoc] at hx ⊢
  exact hx
end Go.Proofs.Ytneiomimjgfbpaa
namespace Go.Proofs.Ytneiomimjgfbpaa
open Go.RowKit Go.PlainAid
set_option linter.unusedSimpArgs false
set_option linter.unusedVariables false
set_option maxRecDepth 100000 in
set_option maxHeartbeats 3200000 in
theorem renc_7 (m : Msg) (ao : Option Addr) (cv : Nat) (w : World) (hf : Fit m) (hsrc : VFrom w ao m.views) (hsb : ∀ b o, ao = some ⟨b, o, none⟩ → b < w.heap.size) (hv : validB m = true) (hk : m.kind = 7) :
    Calls Try.prog 62 #[.agg (msgCells m (.slice ao m.views.length cv))] w (EncPost (message.wr m) w) := by
  have hco : nameB m.name = true ∧ inB m.cap 1 1099511627776 = true ∧ inB m.recaps 0 1099511627776 = true ∧ rightsB m.down m.up = true ∧ inB m.held 0 1099511627776 = true ∧ (inB m.kind 3 7 = false ∨ epochB m.round m.rank = true) ∧ (m.kind ≠ 7 ∨ epochB m.oround m.orank = true) := by
    have h := hv
    unfold validB at h
    rw [if_neg (by omega), if_neg (by omega), if_neg (by omega)] at h
    simp only [knownB, Bool.and_eq_true, Bool.or_eq_true, Bool.not_eq_true', bne_iff_ne] at h
    exact ⟨h.2.1.1.1.1.1.1, h.2.1.1.1.1.1.2, h.2.1.1.1.1.2, h.2.1.1.1.2, h.2.1.1.2, h.2.1.2, h.2.2⟩
  obtain ⟨hn1, hn2, hn3, hn4, hn5, hn6, hn7⟩ := hco
  have wn := name_put hn1
  have hs16 : m.name.length ≤ 16 := by simp only [nameB, Bool.and_eq_true, decide_eq_true_eq] at hn1; omega
  obtain ⟨c, ec, bc, r, er, br, wc⟩ := two_put (lo := 1) (hi := 1099511627776) (lo' := 0) (hi' := 1099511627776) hn2 hn3
  have he : epochB m.round m.rank = true := hn6.resolve_left (by rw [hk]; decide)
  simp only [epochB, Bool.and_eq_true] at he
  obtain ⟨e0, ee0, be0, e1, ee1, be1, we⟩ := two_put (lo := 1) (hi := 1099511627776) (lo' := 0) (hi' := 15) he.1 he.2
  have ho : epochB m.oround m.orank = true := hn7.resolve_left (by rw [hk]; decide)
  simp only [epochB, Bool.and_eq_true] at ho
  obtain ⟨o0, eo0, bo0, o1, eo1, bo1, wo⟩ := two_put (lo := 1) (hi := 1099511627776) (lo' := 0) (hi' := 15) ho.1 ho.2
  have hwr : message.wr m = some (put 7 ++ ((put m.name.length ++ m.name) ++ ((put c ++ put r) ++ ((put e0 ++ put e1) ++ (put o0 ++ put o1))))) := by
    have hs : (message.wr m).isSome = true := by rw [validB_is m hf.a1 hf.a2 hf.b1 hf.b2, hv]
    have hb : bodyW m = some ((put m.name.length ++ m.name) ++ ((put c ++ put r) ++ ((put e0 ++ put e1) ++ (put o0 ++ put o1)))) := by
      unfold bodyW
      rw [if_neg (by omega), if_neg (by omega), if_neg (by omega), if_neg (by omega), if_pos hk]
      rw [wn, (show caps.wr (m.cap, m.recaps) = _ from wc), (show epoch.wr (m.round, m.rank) = _ from we), (show epoch.wr (m.oround, m.orank) = _ from wo)]
      rfl
    have hn : (num 1 10).wr m.kind = some (put 7) := by rw [hk]; exact num_put (by decide)
    rw [enc_is] at hs ⊢
    unfold encM fieldsW at hs ⊢
    rw [hb, hn] at hs ⊢
    simp only [join] at hs ⊢
    split at hs
    · rename_i h; rw [if_pos h]
    · cases hs
  rw [hwr]
  have hl := hf.name
  have hol := hf.oname
  have hnm := hf.names
  have hb0 : ∀ D, Below w.heap.size w (w.alloc (.cells D 35)) := fun D => (Below.refl _ _).alloc (Nat.le_refl _) _
  have hr := rvalid_any m ao cv (w.alloc (.cells (msgCells m (.slice ao m.views.length cv)) 35)) hl hol (hsrc.keep fun b o e => (hb0 _).block b (hsb b o e)) (fun b o e => by rw [World.size_alloc]; have := hsb b o e; omega) hnm
  rw [hv] at hr
  have hsz : (msgCells m (.slice ao m.views.length cv)).size = 20 := rfl
  have hDs : ∀ W b, Blk W b (msgCells m (.slice ao m.views.length cv)) 35 → W.cell? ⟨b, 1, none⟩ = some (.string ⟨m.name.toArray⟩) ∧ W.cell? ⟨b, 2, none⟩ = some (.int .i64 (c : Nat)) ∧ W.cell? ⟨b, 3, none⟩ = some (.int .i64 (r : Nat)) ∧ W.cell? ⟨b, 4, none⟩ = some (.int .i64 (e0 : Nat)) ∧ W.cell? ⟨b, 5, none⟩ = some (.int .i64 (e1 : Nat)) ∧ W.cell? ⟨b, 6, none⟩ = some (.int .i64 (o0 : Nat)) ∧ W.cell? ⟨b, 7, none⟩ = some (.int .i64 (o1 : Nat)) := by
    intro W b h
    rw [← ec, ← er, ← ee0, ← ee1, ← eo0, ← eo1]
    exact ⟨h.cell 1, h.cell 2, h.cell 3, h.cell 4, h.cell 5, h.cell 6, h.cell 7⟩
  have hD0 : (msgCells m (.slice ao m.views.length cv))[0]? = some (.int .i64 7) := by rw [← hk]; rfl
  generalize hD : msgCells m (.slice ao m.views.length cv) = D at *
  have hi : (Try.prog.info? 35).map (·.size) = some D.size := by rw [hsz]; kernel_rfl
  have hB : Blk (w.alloc (.cells D 35)) w.heap.size D 35 := heap_alloc_new w _
  have HH : Hid _ := And.intro hr (And.intro hb0 hDs)
  have H0 : Hid _ := hD0
  clear hr hb0 hsrc hsb hnm hl hol hD hDs hwr wn wc we wo hn1 hn2 hn3 hn4 hn5 hn6 hn7 hv hk hD0 ec er ee0 ee1 eo0 eo1
  go_enter Try.func62, Try.ntmps62
  go_wp2_with (first | (refine wpList_load_row rfl 35 (.tmp 1) rfl w.heap.size rfl 35 D (0, 0) _ hB Try.underlying35 rfl hi ?_) | fail)
  refine Calls.mono HH.out.1 ?_
  rintro e5 W0 ⟨rfl, hb5⟩
  have hB0 : Blk W0 w.heap.size D 35 := (hb5.block _ hB.lt).trans hB
  have hL0 : Below w.heap.size w W0 := (HH.out.2.1 _).trans (hb5.mono (HH.out.2.1 _).size)
  obtain ⟨BX, hBX⟩ : ∃ BX, BX = [(w.heap.size, D, (35 : TypeId))] := ⟨_, rfl⟩
  have hcx : ∀ wr, CX BX wr → Blk wr w.heap.size D 35 := fun wr hwr => hwr _ (by rw [hBX]; exact List.mem_cons_self)
  have G0 : WG W0 w.heap.size (.slice none 0 0) BX (.slice none 0 0) [] W0 := WG.of (World.ownsRow_nil _ _ _ _) hL0.size (fun x hx => by rw [hBX] at hx; simp only [List.mem_cons, List.not_mem_nil, or_false] at hx; rw [hx]; exact hB0) (fun x _ e => by cases e)
  have hp := plain_step G0 [7] #[.int .i64 7] rfl (by intro x hx; simp at hx; omega) (by simp)
  rw [show plainW [7] = put 7 from by simp [plainW], List.nil_append] at hp
  have c0 : W0.cell? ⟨w.heap.size, 0, none⟩ = some (.int .i64 7) := (hB0.cell 0).trans H0.out
  have HP : Hid _ := And.intro hp (And.intro hL0 hcx)
  clear hp hL0 G0 hB hb5 hB0 hBX hcx
  go_wp2_with fail
  refine (show Calls Try.prog 83 #[.slice none 0 0, .slice (some ⟨W0.heap.size, 0, none⟩) 1 1] _ _ from HP.out.1).mono ?_
  rintro e1 w1 ⟨v1, rfl, G1⟩
  have c1 : w1.cell? ⟨w.heap.size, 0, none⟩ = some (.int .i64 7) := ((HP.out.2.2 _ G1.cx).cell 0).trans H0.out
  have HG : Hid _ := G1
  clear G1 c0
  go_wp2_with fail
  rename_i K hK
  have hlk := (put_len 7 (by omega)).2.1
  refine enc20 (s := m.name) (c := c) (r := r) (Fr.ofLit _ rfl) rfl rfl HG.out (fun wr hwr => ?_) hs16 (by omega) (by omega) (by omega) ?_
  · have h := HH.out.2.2 wr _ (HP.out.2.2 wr hwr)
    exact ⟨h.1, h.2.1, h.2.2.1⟩
  intro a2 f2 W2 v2 F2 k1 k4 G2
  refine hK _ _ ?_
  clear hK HG c1
  rw [F2.lit, lit150 f2, k1, k4]
  have hl20 : (put 7 ++ (put m.name.length ++ m.name) ++ (put c ++ put r)).length ≤ 100 := by
    have h1 := (put_len c (by omega)).2.1
    have h2 := (put_len r (by omega)).2.1
    have h3 := (put_len m.name.length (by omega)).2.1
    simp only [List.length_append]
    omega
  have hc2 := HP.out.2.2 _ G2.cx
  have d2 : W2.cell? ⟨w.heap.size, 0, none⟩ = some (.int .i64 7) := (hc2.cell 0).trans H0.out
  have d2e0 : W2.cell? ⟨w.heap.size, 4, none⟩ = some (.int .i64 (e0 : Nat)) := by have h := HH.out.2.2 _ _ hc2; exact h.2.2.2.1
  have d2e1 : W2.cell? ⟨w.heap.size, 5, none⟩ = some (.int .i64 (e1 : Nat)) := by have h := HH.out.2.2 _ _ hc2; exact h.2.2.2.2.1
  have hp2 := plain_step G2 [e0, e1] #[.int .i64 (e0 : Nat), .int .i64 (e1 : Nat)] rfl (by intro x hx; simp at hx; omega) (by simp only [List.length_cons, List.length_nil]; omega)
  rw [show plainW [e0, e1] = put e0 ++ put e1 from by simp [plainW]] at hp2
  have HG2 : Hid _ := hp2
  clear hp2 hc2 G2 k1 k4
  go_wp2_with fail
  refine (show Calls Try.prog 83 #[v2, .slice (some ⟨W2.heap.size, 0, none⟩) 2 2] _ _ from HG2.out).mono ?_
  rintro e3 W3 ⟨v3, rfl, G3⟩
  have hl3 : ((put 7 ++ (put m.name.length ++ m.name) ++ (put c ++ put r)) ++ (put e0 ++ put e1)).length ≤ 130 := by
    have h1 := (put_len e0 (by omega)).2.1
    have h2 := (put_len e1 (by omega)).2.1
    rw [List.length_append]
    simp only [List.length_append] at hl20 ⊢
    omega
  clear d2 d2e0 d2e1 HG2
  have hc3 := HP.out.2.2 _ G3.cx
  have d3 : W3.cell? ⟨w.heap.size, 0, none⟩ = some (.int .i64 7) := (hc3.cell 0).trans H0.out
  have d3o0 : W3.cell? ⟨w.heap.size, 6, none⟩ = some (.int .i64 (o0 : Nat)) := by have h := HH.out.2.2 _ _ hc3; exact h.2.2.2.2.2.1
  have d3o1 : W3.cell? ⟨w.heap.size, 7, none⟩ = some (.int .i64 (o1 : Nat)) := by have h := HH.out.2.2 _ _ hc3; exact h.2.2.2.2.2.2
  have hp3 := plain_step G3 [o0, o1] #[.int .i64 (o0 : Nat), .int .i64 (o1 : Nat)] rfl (by intro x hx; simp at hx; omega) (by simp only [List.length_cons, List.length_nil]; omega)
  rw [show plainW [o0, o1] = put o0 ++ put o1 from by simp [plainW]] at hp3
  have HG3 : Hid _ := hp3
  clear hp3 hc3 G3 
  go_wp2_with fail
  refine (show Calls Try.prog 83 #[v3, .slice (some ⟨W3.heap.size, 0, none⟩) 2 2] _ _ from HG3.out).mono ?_
  rintro e4 W4 ⟨v4, rfl, G4⟩
  have hl4 : (((put 7 ++ (put m.name.length ++ m.name) ++ (put c ++ put r)) ++ (put e0 ++ put e1)) ++ (put o0 ++ put o1)).length ≤ 160 := by
    have h1 := (put_len o0 (by omega)).2.1
    have h2 := (put_len o1 (by omega)).2.1
    rw [List.length_append]
    simp only [List.length_append] at hl3 ⊢
    omega
  clear d3 d3o0 d3o1 HG3
  have hc4 := HP.out.2.2 _ G4.cx
  have d4 : W4.cell? ⟨w.heap.size, 0, none⟩ = some (.int .i64 7) := (hc4.cell 0).trans H0.out
  have hbY := G4.grew.below (base := w.heap.size) (by intro j e; cases e) (by have := HP.out.2.1.size; omega)
  have hfin : EncPost (some (put 7 ++ ((put m.name.length ++ m.name) ++ ((put c ++ put r) ++ ((put e0 ++ put e1) ++ (put o0 ++ put o1)))))) w (.returned (.tuple #[v4, .int .i64 0])) W4 := ⟨HP.out.2.1.trans hbY, v4, rfl, by simpa [List.append_assoc] using G4.own⟩
  have HF : Hid _ := hfin
  clear hfin hbY G4 hc4
  go_wp2
  go_ret2
  have hx := HF.out
  simp only [List.append_assoc] at hx ⊢
  exact hx
end Go.Proofs.Ytneiomimjgfbpaa
