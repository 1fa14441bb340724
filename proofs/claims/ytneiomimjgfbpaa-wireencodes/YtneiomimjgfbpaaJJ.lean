import Derived.Test.YtneiomimjgfbpaaJM
import Derived.Test.YtneiomimjgfbpaaJH
namespace Go.Proofs.Ytneiomimjgfbpaa
open Go.RowKit Go.PlainAid
set_option linter.unusedSimpArgs false
set_option linter.unusedVariables false
theorem two_put {lo hi lo' hi' : Nat} {x y : Int} (h1 : inB x lo hi = true) (h2 : inB y lo' hi' = true) : ∃ a : Nat, x = (a : Nat) ∧ a ≤ hi ∧ ∃ b : Nat, y = (b : Nat) ∧ b ≤ hi' ∧ (pair (num lo hi) (num lo' hi')).wr (x, y) = some (put a ++ put b) := by
  obtain ⟨m, e1, t1, l1⟩ := in_nat (lo := lo) (hi := hi) h1
  obtain ⟨n, e2, t2, l2⟩ := in_nat (lo := lo') (hi := hi') h2
  refine ⟨m, e1, l1, n, e2, l2, ?_⟩
  have := pair_put (num_put (lo := lo) (hi := hi) h1) (num_put (lo := lo') (hi := hi') h2)
  rw [t1, t2] at this
  exact this
set_option maxRecDepth 100000 in
set_option maxHeartbeats 3200000 in
theorem renc_3 (m : Msg) (ao : Option Addr) (cv : Nat) (w : World) (hf : Fit m) (hsrc : VFrom w ao m.views) (hsb : ∀ b o, ao = some ⟨b, o, none⟩ → b < w.heap.size) (hv : validB m = true) (hk : m.kind = 3) :
    Calls Try.prog 62 #[.agg (msgCells m (.slice ao m.views.length cv))] w (EncPost (message.wr m) w) := by
  have hco : nameB m.name = true ∧ inB m.cap 1 1099511627776 = true ∧ inB m.recaps 0 1099511627776 = true ∧ rightsB m.down m.up = true ∧ inB m.held 0 1099511627776 = true ∧ (inB m.kind 3 7 = false ∨ epochB m.round m.rank = true) ∧ (m.kind ≠ 7 ∨ epochB m.oround m.orank = true) := by
    have h := hv
    unfold validB at h
    rw [if_neg (by omega), if_neg (by omega), if_neg (by omega)] at h
    simp only [knownB, Bool.and_eq_true, Bool.or_eq_true, Bool.not_eq_true', bne_iff_ne] at h
    exact ⟨h.2.1.1.1.1.1.1, h.2.1.1.1.1.1.2, h.2.1.1.1.1.2, h.2.1.1.1.2, h.2.1.1.2, h.2.1.2, h.2.2⟩
  obtain ⟨hn1, hn2, hn3, hn4, hn5, hn6, hn7⟩ := hco
  have wn := name_put hn1
  have hs16 : m.name.length ≤ 16 := by simp only [nameB, Bool.and_eq_true, decide_eq_true_eq] at hn1; omega
  obtain ⟨c, ec, bc, r, er, br, wc⟩ := two_put (lo := 1) (hi := 1099511627776) (lo' := 0) (hi' := 1099511627776) hn2 hn3
  have he : epochB m.round m.rank = true := hn6.resolve_left (by rw [hk]; decide)
  simp only [epochB, Bool.and_eq_true] at he
  obtain ⟨e0, ee0, be0, e1, ee1, be1, we⟩ := two_put (lo := 1) (hi := 1099511627776) (lo' := 0) (hi' := 15) he.1 he.2
  have hwr : message.wr m = some (put 3 ++ ((put m.name.length ++ m.name) ++ ((put c ++ put r) ++ (put e0 ++ put e1)))) := by
    have hs : (message.wr m).isSome = true := by rw [validB_is m hf.a1 hf.a2 hf.b1 hf.b2, hv]
    have hb : bodyW m = some ((put m.name.length ++ m.name) ++ ((put c ++ put r) ++ (put e0 ++ put e1))) := by
      unfold bodyW
      rw [if_neg (by omega), if_neg (by omega), if_pos hk]
      rw [wn, (show caps.wr (m.cap, m.recaps) = _ from wc), (show epoch.wr (m.round, m.rank) = _ from we)]
      rfl
    have hn : (num 1 10).wr m.kind = some (put 3) := by rw [hk]; exact num_put (by decide)
    rw [enc_is] at hs ⊢
    unfold encM fieldsW at hs ⊢
    rw [hb, hn] at hs ⊢
    simp only [join] at hs ⊢
    split at hs
    · rename_i h; rw [if_pos h]
    · cases hs
  rw [hwr]
  have hl := hf.name
  have hol := hf.oname
  have hnm := hf.names
  have hb0 : ∀ D, Below w.heap.size w (w.alloc (.cells D 35)) := fun D => (Below.refl _ _).alloc (Nat.le_refl _) _
  have hr := rvalid_any m ao cv (w.alloc (.cells (msgCells m (.slice ao m.views.length cv)) 35)) hl hol (hsrc.keep fun b o e => (hb0 _).block b (hsb b o e)) (fun b o e => by rw [World.size_alloc]; have := hsb b o e; omega) hnm
  rw [hv] at hr
  have hsz : (msgCells m (.slice ao m.views.length cv)).size = 20 := rfl
  have hDs : ∀ W b, Blk W b (msgCells m (.slice ao m.views.length cv)) 35 → W.cell? ⟨b, 1, none⟩ = some (.string ⟨m.name.toArray⟩) ∧ W.cell? ⟨b, 2, none⟩ = some (.int .i64 (c : Nat)) ∧ W.cell? ⟨b, 3, none⟩ = some (.int .i64 (r : Nat)) ∧ W.cell? ⟨b, 4, none⟩ = some (.int .i64 (e0 : Nat)) ∧ W.cell? ⟨b, 5, none⟩ = some (.int .i64 (e1 : Nat)) := by
    intro W b h
    rw [← ec, ← er, ← ee0, ← ee1]
    exact ⟨h.cell 1, h.cell 2, h.cell 3, h.cell 4, h.cell 5⟩
  have hD0 : (msgCells m (.slice ao m.views.length cv))[0]? = some (.int .i64 3) := by rw [← hk]; rfl
  generalize hD : msgCells m (.slice ao m.views.length cv) = D at *
  have hi : (Try.prog.info? 35).map (·.size) = some D.size := by rw [hsz]; kernel_rfl
  have hB : Blk (w.alloc (.cells D 35)) w.heap.size D 35 := heap_alloc_new w _
  have HH : Hid _ := And.intro hr (And.intro hb0 hDs)
  have H0 : Hid _ := hD0
  clear hr hb0 hsrc hsb hnm hl hol hD hDs hwr wn wc we hn1 hn2 hn3 hn4 hn5 hn6 hn7 hv hk hD0 ec er ee0 ee1
  go_enter Try.func62, Try.ntmps62
  go_wp2_with (first | (refine wpList_load_row rfl 35 (.tmp 1) rfl w.heap.size rfl 35 D (0, 0) _ hB Try.underlying35 rfl hi ?_) | fail)
  refine Calls.mono HH.out.1 ?_
  rintro e5 W0 ⟨rfl, hb5⟩
  have hB0 : Blk W0 w.heap.size D 35 := (hb5.block _ hB.lt).trans hB
  have hL0 : Below w.heap.size w W0 := (HH.out.2.1 _).trans (hb5.mono (HH.out.2.1 _).size)
  obtain ⟨BX, hBX⟩ : ∃ BX, BX = [(w.heap.size, D, (35 : TypeId))] := ⟨_, rfl⟩
  have hcx : ∀ wr, CX BX wr → Blk wr w.heap.size D 35 := fun wr hwr => hwr _ (by rw [hBX]; exact List.mem_cons_self)
  have G0 : WG W0 w.heap.size (.slice none 0 0) BX (.slice none 0 0) [] W0 := WG.of (World.ownsRow_nil _ _ _ _) hL0.size (fun x hx => by rw [hBX] at hx; simp only [List.mem_cons, List.not_mem_nil, or_false] at hx; rw [hx]; exact hB0) (fun x _ e => by cases e)
  have hp := plain_step G0 [3] #[.int .i64 3] rfl (by intro x hx; simp at hx; omega) (by simp)
  rw [show plainW [3] = put 3 from by simp [plainW], List.nil_append] at hp
  have c0 : W0.cell? ⟨w.heap.size, 0, none⟩ = some (.int .i64 3) := (hB0.cell 0).trans H0.out
  have HP : Hid _ := And.intro hp (And.intro hL0 hcx)
  clear hp hL0 G0 hB hb5 hB0 hBX hcx
  go_wp2_with fail
  refine (show Calls Try.prog 83 #[.slice none 0 0, .slice (some ⟨W0.heap.size, 0, none⟩) 1 1] _ _ from HP.out.1).mono ?_
  rintro e1 w1 ⟨v1, rfl, G1⟩
  have c1 : w1.cell? ⟨w.heap.size, 0, none⟩ = some (.int .i64 3) := ((HP.out.2.2 _ G1.cx).cell 0).trans H0.out
  have HG : Hid _ := G1
  clear G1 c0
  go_wp2_with fail
  rename_i K hK
  have hlk := (put_len 3 (by omega)).2.1
  refine enc20 (s := m.name) (c := c) (r := r) (Fr.ofLit _ rfl) rfl rfl HG.out (fun wr hwr => ?_) hs16 (by omega) (by omega) (by omega) ?_
  · have h := HH.out.2.2 wr _ (HP.out.2.2 wr hwr)
    exact ⟨h.1, h.2.1, h.2.2.1⟩
  intro a2 f2 W2 v2 F2 k1 k4 G2
  refine hK _ _ ?_
  clear hK HG c1
  rw [F2.lit, lit150 f2, k1, k4]
  have hl20 : (put 3 ++ (put m.name.length ++ m.name) ++ (put c ++ put r)).length ≤ 100 := by
    have h1 := (put_len c (by omega)).2.1
    have h2 := (put_len r (by omega)).2.1
    have h3 := (put_len m.name.length (by omega)).2.1
    simp only [List.length_append]
    omega
  have hc2 := HP.out.2.2 _ G2.cx
  have d2 : W2.cell? ⟨w.heap.size, 0, none⟩ = some (.int .i64 3) := (hc2.cell 0).trans H0.out
  have d2e0 : W2.cell? ⟨w.heap.size, 4, none⟩ = some (.int .i64 (e0 : Nat)) := by have h := HH.out.2.2 _ _ hc2; exact h.2.2.2.1
  have d2e1 : W2.cell? ⟨w.heap.size, 5, none⟩ = some (.int .i64 (e1 : Nat)) := by have h := HH.out.2.2 _ _ hc2; exact h.2.2.2.2
  have hp2 := plain_step G2 [e0, e1] #[.int .i64 (e0 : Nat), .int .i64 (e1 : Nat)] rfl (by intro x hx; simp at hx; omega) (by simp only [List.length_cons, List.length_nil]; omega)
  rw [show plainW [e0, e1] = put e0 ++ put e1 from by simp [plainW]] at hp2
  have HG2 : Hid _ := hp2
  clear hp2 hc2 G2 k1 k4
  go_wp2_with fail
  refine (show Calls Try.prog 83 #[v2, .slice (some ⟨W2.heap.size, 0, none⟩) 2 2] _ _ from HG2.out).mono ?_
  rintro e3 W3 ⟨v3, rfl, G3⟩
  have hl3 : ((put 3 ++ (put m.name.length ++ m.name) ++ (put c ++ put r)) ++ (put e0 ++ put e1)).length ≤ 130 := by
    have h1 := (put_len e0 (by omega)).2.1
    have h2 := (put_len e1 (by omega)).2.1
    rw [List.length_append]
    simp only [List.length_append] at hl20 ⊢
    omega
  clear d2 d2e0 d2e1 HG2
  have hc3 := HP.out.2.2 _ G3.cx
  have d3 : W3.cell? ⟨w.heap.size, 0, none⟩ = some (.int .i64 3) := (hc3.cell 0).trans H0.out
  have hbY := G3.grew.below (base := w.heap.size) (by intro j e; cases e) (by have := HP.out.2.1.size; omega)
  have hfin : EncPost (some (put 3 ++ ((put m.name.length ++ m.name) ++ ((put c ++ put r) ++ (put e0 ++ put e1))))) w (.returned (.tuple #[v3, .int .i64 0])) W3 := ⟨HP.out.2.1.trans hbY, v3, rfl, by simpa [List.append_assoc] using G3.own⟩
  have HF : Hid _ := hfin
  clear hfin hbY G3 hc3
  go_wp2
  go_ret2
  have hx := HF.out
  simp only [List.append_assoc] at hx ⊢
  exact hx
end Go.Proofs.Ytneiomimjgfbpaa
namespace Go.Proofs.Ytneiomimjgfbpaa
open Go.RowKit Go.PlainAid
set_option linter.unusedSimpArgs false
set_option linter.unusedVariables false
set_option maxRecDepth 100000 in
set_option maxHeartbeats 3200000 in
theorem renc_8 (m : Msg) (ao : Option Addr) (cv : Nat) (w : World) (hf : Fit m) (hsrc : VFrom w ao m.views) (hsb : ∀ b o, ao = some ⟨b, o, none⟩ → b < w.heap.size) (hv : validB m = true) (hk : m.kind = 8) :
    Calls Try.prog 62 #[.agg (msgCells m (.slice ao m.views.length cv))] w (EncPost (message.wr m) w) := by
  have hco : nameB m.name = true ∧ inB m.cap 1 1099511627776 = true ∧ inB m.recaps 0 1099511627776 = true ∧ rightsB m.down m.up = true ∧ inB m.held 0 1099511627776 = true ∧ (inB m.kind 3 7 = false ∨ epochB m.round m.rank = true) ∧ (m.kind ≠ 7 ∨ epochB m.oround m.orank = true) := by
    have h := hv
    unfold validB at h
    rw [if_neg (by omega), if_neg (by omega), if_neg (by omega)] at h
    simp only [knownB, Bool.and_eq_true, Bool.or_eq_true, Bool.not_eq_true', bne_iff_ne] at h
    exact ⟨h.2.1.1.1.1.1.1, h.2.1.1.1.1.1.2, h.2.1.1.1.1.2, h.2.1.1.1.2, h.2.1.1.2, h.2.1.2, h.2.2⟩
  obtain ⟨hn1, hn2, hn3, hn4, hn5, hn6, hn7⟩ := hco
  have wn := name_put hn1
  have hs16 : m.name.length ≤ 16 := by simp only [nameB, Bool.and_eq_true, decide_eq_true_eq] at hn1; omega
  obtain ⟨c, ec, bc, r, er, br, wc⟩ := two_put (lo := 1) (hi := 1099511627776) (lo' := 0) (hi' := 1099511627776) hn2 hn3
  simp only [rightsB, Bool.and_eq_true] at hn4
  obtain ⟨r0, er0, br0, r1, er1, br1, wr'⟩ := two_put (lo := 0) (hi := 1099511627776) (lo' := 0) (hi' := 1099511627776) hn4.1 hn4.2
  have hwr : message.wr m = some (put 8 ++ ((put m.name.length ++ m.name) ++ ((put c ++ put r) ++ (put r0 ++ put r1)))) := by
    have hs : (message.wr m).isSome = true := by rw [validB_is m hf.a1 hf.a2 hf.b1 hf.b2, hv]
    have hb : bodyW m = some ((put m.name.length ++ m.name) ++ ((put c ++ put r) ++ (put r0 ++ put r1))) := by
      unfold bodyW
      rw [if_neg (by omega), if_neg (by omega), if_neg (by omega), if_neg (by omega), if_neg (by omega), if_pos (by omega)]
      rw [wn, (show caps.wr (m.cap, m.recaps) = _ from wc), (show rights.wr (m.down, m.up) = _ from wr')]
      rfl
    have hn : (num 1 10).wr m.kind = some (put 8) := by rw [hk]; exact num_put (by decide)
    rw [enc_is] at hs ⊢
    unfold encM fieldsW at hs ⊢
    rw [hb, hn] at hs ⊢
    simp only [join] at hs ⊢
    split at hs
    · rename_i h; rw [if_pos h]
    · cases hs
  rw [hwr]
  have hl := hf.name
  have hol := hf.oname
  have hnm := hf.names
  have hb0 : ∀ D, Below w.heap.size w (w.alloc (.cells D 35)) := fun D => (Below.refl _ _).alloc (Nat.le_refl _) _
  have hr := rvalid_any m ao cv (w.alloc (.cells (msgCells m (.slice ao m.views.length cv)) 35)) hl hol (hsrc.keep fun b o e => (hb0 _).block b (hsb b o e)) (fun b o e => by rw [World.size_alloc]; have := hsb b o e; omega) hnm
  rw [hv] at hr
  have hsz : (msgCells m (.slice ao m.views.length cv)).size = 20 := rfl
  have hDs : ∀ W b, Blk W b (msgCells m (.slice ao m.views.length cv)) 35 → W.cell? ⟨b, 1, none⟩ = some (.string ⟨m.name.toArray⟩) ∧ W.cell? ⟨b, 2, none⟩ = some (.int .i64 (c : Nat)) ∧ W.cell? ⟨b, 3, none⟩ = some (.int .i64 (r : Nat)) ∧ W.cell? ⟨b, 8, none⟩ = some (.int .i64 (r0 : Nat)) ∧ W.cell? ⟨b, 9, none⟩ = some (.int .i64 (r1 : Nat)) := by
    intro W b h
    rw [← ec, ← er, ← er0, ← er1]
    exact ⟨h.cell 1, h.cell 2, h.cell 3, h.cell 8, h.cell 9⟩
  have hD0 : (msgCells m (.slice ao m.views.length cv))[0]? = some (.int .i64 8) := by rw [← hk]; rfl
  generalize hD : msgCells m (.slice ao m.views.length cv) = D at *
  have hi : (Try.prog.info? 35).map (·.size) = some D.size := by rw [hsz]; kernel_rfl
  have hB : Blk (w.alloc (.cells D 35)) w.heap.size D 35 := heap_alloc_new w _
  have HH : Hid _ := And.intro hr (And.intro hb0 hDs)
  have H0 : Hid _ := hD0
  clear hr hb0 hsrc hsb hnm hl hol hD hDs hwr wn wc wr' hn1 hn2 hn3 hn4 hn5 hn6 hn7 hv hk hD0 ec er er0 er1
  go_enter Try.func62, Try.ntmps62
  go_wp2_with (first | (refine wpList_load_row rfl 35 (.tmp 1) rfl w.heap.size rfl 35 D (0, 0) _ hB Try.underlying35 rfl hi ?_) | fail)
  refine Calls.mono HH.out.1 ?_
  rintro e5 W0 ⟨rfl, hb5⟩
  have hB0 : Blk W0 w.heap.size D 35 := (hb5.block _ hB.lt).trans hB
  have hL0 : Below w.heap.size w W0 := (HH.out.2.1 _).trans (hb5.mono (HH.out.2.1 _).size)
  obtain ⟨BX, hBX⟩ : ∃ BX, BX = [(w.heap.size, D, (35 : TypeId))] := ⟨_, rfl⟩
  have hcx : ∀ wr, CX BX wr → Blk wr w.heap.size D 35 := fun wr hwr => hwr _ (by rw [hBX]; exact List.mem_cons_self)
  have G0 : WG W0 w.heap.size (.slice none 0 0) BX (.slice none 0 0) [] W0 := WG.of (World.ownsRow_nil _ _ _ _) hL0.size (fun x hx => by rw [hBX] at hx; simp only [List.mem_cons, List.not_mem_nil, or_false] at hx; rw [hx]; exact hB0) (fun x _ e => by cases e)
  have hp := plain_step G0 [8] #[.int .i64 8] rfl (by intro x hx; simp at hx; omega) (by simp)
  rw [show plainW [8] = put 8 from by simp [plainW], List.nil_append] at hp
  have c0 : W0.cell? ⟨w.heap.size, 0, none⟩ = some (.int .i64 8) := (hB0.cell 0).trans H0.out
  have HP : Hid _ := And.intro hp (And.intro hL0 hcx)
  clear hp hL0 G0 hB hb5 hB0 hBX hcx
  go_wp2_with fail
  refine (show Calls Try.prog 83 #[.slice none 0 0, .slice (some ⟨W0.heap.size, 0, none⟩) 1 1] _ _ from HP.out.1).mono ?_
  rintro e1 w1 ⟨v1, rfl, G1⟩
  have c1 : w1.cell? ⟨w.heap.size, 0, none⟩ = some (.int .i64 8) := ((HP.out.2.2 _ G1.cx).cell 0).trans H0.out
  have HG : Hid _ := G1
  clear G1 c0
  go_wp2_with fail
  rename_i K hK
  have hlk := (put_len 8 (by omega)).2.1
  refine enc20 (s := m.name) (c := c) (r := r) (Fr.ofLit _ rfl) rfl rfl HG.out (fun wr hwr => ?_) hs16 (by omega) (by omega) (by omega) ?_
  · have h := HH.out.2.2 wr _ (HP.out.2.2 wr hwr)
    exact ⟨h.1, h.2.1, h.2.2.1⟩
  intro a2 f2 W2 v2 F2 k1 k4 G2
  refine hK _ _ ?_
  clear hK HG c1
  rw [F2.lit, lit150 f2, k1, k4]
  have hl20 : (put 8 ++ (put m.name.length ++ m.name) ++ (put c ++ put r)).length ≤ 100 := by
    have h1 := (put_len c (by omega)).2.1
    have h2 := (put_len r (by omega)).2.1
    have h3 := (put_len m.name.length (by omega)).2.1
    simp only [List.length_append]
    omega
  have hc2 := HP.out.2.2 _ G2.cx
  have d2 : W2.cell? ⟨w.heap.size, 0, none⟩ = some (.int .i64 8) := (hc2.cell 0).trans H0.out
  have d2r0 : W2.cell? ⟨w.heap.size, 8, none⟩ = some (.int .i64 (r0 : Nat)) := by have h := HH.out.2.2 _ _ hc2; exact h.2.2.2.1
  have d2r1 : W2.cell? ⟨w.heap.size, 9, none⟩ = some (.int .i64 (r1 : Nat)) := by have h := HH.out.2.2 _ _ hc2; exact h.2.2.2.2
  have hp2 := plain_step G2 [r0, r1] #[.int .i64 (r0 : Nat), .int .i64 (r1 : Nat)] rfl (by intro x hx; simp at hx; omega) (by simp only [List.length_cons, List.length_nil]; omega)
  rw [show plainW [r0, r1] = put r0 ++ put r1 from by simp [plainW]] at hp2
  have HG2 : Hid _ := hp2
  clear hp2 hc2 G2 k1 k4
  go_wp2_with fail
  refine (show Calls Try.prog 83 #[v2, .slice (some ⟨W2.heap.size, 0, none⟩) 2 2] _ _ from HG2.out).mono ?_
  rintro e3 W3 ⟨v3, rfl, G3⟩
  have hl3 : ((put 8 ++ (put m.name.length ++ m.name) ++ (put c ++ put r)) ++ (put r0 ++ put r1)).length ≤ 130 := by
    have h1 := (put_len r0 (by omega)).2.1
    have h2 := (put_len r1 (by omega)).2.1
    rw [List.length_append]
    simp only [List.length_append] at hl20 ⊢
    omega
  clear d2 d2r0 d2r1 HG2
  have hc3 := HP.out.2.2 _ G3.cx
  have d3 : W3.cell? ⟨w.heap.size, 0, none⟩ = some (.int .i64 8) := (hc3.cell 0).trans H0.out
  have hbY := G3.grew.below (base := w.heap.size) (by intro j e; cases e) (by have := HP.out.2.1.size; omega)
  have hfin : EncPost (some (put 8 ++ ((put m.name.length ++ m.name) ++ ((put c ++ put r) ++ (put r0 ++ put r1))))) w (.returned (.tuple #[v3, .int .i64 0])) W3 := ⟨HP.out.2.1.trans hbY, v3, rfl, by simpa [List.append_assoc] using G3.own⟩
  have HF : Hid _ := hfin
  clear hfin hbY G3 hc3
  go_wp2
  go_ret2
  have hx := HF.out
  simp only [List.append_assoc] at hx ⊢
  exact hx
end Go.Proofs.Ytneiomimjgfbpaa
namespace Go.Proofs.Ytneiomimjgfbpaa
open Go.RowKit Go.PlainAid
set_option linter.unusedSimpArgs false
set_option linter.unusedVariables false
set_option maxRecDepth 100000 in
set_option maxHeartbeats 3200000 in
theorem renc_9 (m : Msg) (ao : Option Addr) (cv : Nat) (w : World) (hf : Fit m) (hsrc : VFrom w ao m.views) (hsb : ∀ b o, ao = some ⟨b, o, none⟩ → b < w.heap.size) (hv : validB m = true) (hk : m.kind = 9) :
    Calls Try.prog 62 #[.agg (msgCells m (.slice ao m.views.length cv))] w (EncPost (message.wr m) w) := by
  have hco : nameB m.name = true ∧ inB m.cap 1 1099511627776 = true ∧ inB m.recaps 0 1099511627776 = true ∧ rightsB m.down m.up = true ∧ inB m.held 0 1099511627776 = true ∧ (inB m.kind 3 7 = false ∨ epochB m.round m.rank = true) ∧ (m.kind ≠ 7 ∨ epochB m.oround m.orank = true) := by
    have h := hv
    unfold validB at h
    rw [if_neg (by omega), if_neg (by omega), if_neg (by omega)] at h
    simp only [knownB, Bool.and_eq_true, Bool.or_eq_true, Bool.not_eq_true', bne_iff_ne] at h
    exact ⟨h.2.1.1.1.1.1.1, h.2.1.1.1.1.1.2, h.2.1.1.1.1.2, h.2.1.1.1.2, h.2.1.1.2, h.2.1.2, h.2.2⟩
  obtain ⟨hn1, hn2, hn3, hn4, hn5, hn6, hn7⟩ := hco
  have wn := name_put hn1
  have hs16 : m.name.length ≤ 16 := by simp only [nameB, Bool.and_eq_true, decide_eq_true_eq] at hn1; omega
  obtain ⟨c, ec, bc, r, er, br, wc⟩ := two_put (lo := 1) (hi := 1099511627776) (lo' := 0) (hi' := 1099511627776) hn2 hn3
  simp only [rightsB, Bool.and_eq_true] at hn4
  obtain ⟨r0, er0, br0, r1, er1, br1, wr'⟩ := two_put (lo := 0) (hi := 1099511627776) (lo' := 0) (hi' := 1099511627776) hn4.1 hn4.2
  have hwr : message.wr m = some (put 9 ++ ((put m.name.length ++ m.name) ++ ((put c ++ put r) ++ (put r0 ++ put r1)))) := by
    have hs : (message.wr m).isSome = true := by rw [validB_is m hf.a1 hf.a2 hf.b1 hf.b2, hv]
    have hb : bodyW m = some ((put m.name.length ++ m.name) ++ ((put c ++ put r) ++ (put r0 ++ put r1))) := by
      unfold bodyW
      rw [if_neg (by omega), if_neg (by omega), if_neg (by omega), if_neg (by omega), if_neg (by omega), if_pos (by omega)]
      rw [wn, (show caps.wr (m.cap, m.recaps) = _ from wc), (show rights.wr (m.down, m.up) = _ from wr')]
      rfl
    have hn : (num 1 10).wr m.kind = some (put 9) := by rw [hk]; exact num_put (by decide)
    rw [enc_is] at hs ⊢
    unfold encM fieldsW at hs ⊢
    rw [hb, hn] at hs ⊢
    simp only [join] at hs ⊢
    split at hs
    · rename_i h; rw [if_pos h]
    · cases hs
  rw [hwr]
  have hl := hf.name
  have hol := hf.oname
  have hnm := hf.names
  have hb0 : ∀ D, Below w.heap.size w (w.alloc (.cells D 35)) := fun D => (Below.refl _ _).alloc (Nat.le_refl _) _
  have hr := rvalid_any m ao cv (w.alloc (.cells (msgCells m (.slice ao m.views.length cv)) 35)) hl hol (hsrc.keep fun b o e => (hb0 _).block b (hsb b o e)) (fun b o e => by rw [World.size_alloc]; have := hsb b o e; omega) hnm
  rw [hv] at hr
  have hsz : (msgCells m (.slice ao m.views.length cv)).size = 20 := rfl
  have hDs : ∀ W b, Blk W b (msgCells m (.slice ao m.views.length cv)) 35 → W.cell? ⟨b, 1, none⟩ = some (.string ⟨m.name.toArray⟩) ∧ W.cell? ⟨b, 2, none⟩ = some (.int .i64 (c : Nat)) ∧ W.cell? ⟨b, 3, none⟩ = some (.int .i64 (r : Nat)) ∧ W.cell? ⟨b, 8, none⟩ = some (.int .i64 (r0 : Nat)) ∧ W.cell? ⟨b, 9, none⟩ = some (.int .i64 (r1 : Nat)) := by
    intro W b h
    rw [← ec, ← er, ← er0, ← er1]
    exact ⟨h.cell 1, h.cell 2, h.cell 3, h.cell 8, h.cell 9⟩
  have hD0 : (msgCells m (.slice ao m.views.length cv))[0]? = some (.int .i64 9) := by rw [← hk]; rfl
  generalize hD : msgCells m (.slice ao m.views.length cv) = D at *
  have hi : (Try.prog.info? 35).map (·.size) = some D.size := by rw [hsz]; kernel_rfl
  have hB : Blk (w.alloc (.cells D 35)) w.heap.size D 35 := heap_alloc_new w _
  have HH : Hid _ := And.intro hr (And.intro hb0 hDs)
  have H0 : Hid _ := hD0
  clear hr hb0 hsrc hsb hnm hl hol hD hDs hwr wn wc wr' hn1 hn2 hn3 hn4 hn5 hn6 hn7 hv hk hD0 ec er er0 er1
  go_enter Try.func62, Try.ntmps62
  go_wp2_with (first | (refine wpList_load_row rfl 35 (.tmp 1) rfl w.heap.size rfl 35 D (0, 0) _ hB Try.underlying35 rfl hi ?_) | fail)
  refine Calls.mono HH.out.1 ?_
  rintro e5 W0 ⟨rfl, hb5⟩
  have hB0 : Blk W0 w.heap.size D 35 := (hb5.block _ hB.lt).trans hB
  have hL0 : Below w.heap.size w W0 := (HH.out.2.1 _).trans (hb5.mono (HH.out.2.1 _).size)
  obtain ⟨BX, hBX⟩ : ∃ BX, BX = [(w.heap.size, D, (35 : TypeId))] := ⟨_, rfl⟩
  have hcx : ∀ wr, CX BX wr → Blk wr w.heap.size D 35 := fun wr hwr => hwr _ (by rw [hBX]; exact List.mem_cons_self)
  have G0 : WG W0 w.heap.size (.slice none 0 0) BX (.slice none 0 0) [] W0 := WG.of (World.ownsRow_nil _ _ _ _) hL0.size (fun x hx => by rw [hBX] at hx; simp only [List.mem_cons, List.not_mem_nil, or_false] at hx; rw [hx]; exact hB0) (fun x _ e => by cases e)
  have hp := plain_step G0 [9] #[.int .i64 9] rfl (by intro x hx; simp at hx; omega) (by simp)
  rw [show plainW [9] = put 9 from by simp [plainW], List.nil_append] at hp
  have c0 : W0.cell? ⟨w.heap.size, 0, none⟩ = some (.int .i64 9) := (hB0.cell 0).trans H0.out
  have HP : Hid _ := And.intro hp (And.intro hL0 hcx)
  clear hp hL0 G0 hB hb5 hB0 hBX hcx
  go_wp2_with fail
  refine (show Calls Try.prog 83 #[.slice none 0 0, .slice (some ⟨W0.heap.size, 0, none⟩) 1 1] _ _ from HP.out.1).mono ?_
  rintro e1 w1 ⟨v1, rfl, G1⟩
  have c1 : w1.cell? ⟨w.heap.size, 0, none⟩ = some (.int .i64 9) := ((HP.out.2.2 _ G1.cx).cell 0).trans H0.out
  have HG : Hid _ := G1
  clear G1 c0
  go_wp2_with fail
  rename_i K hK
  have hlk := (put_len 9 (by omega)).2.1
  refine enc20 (s := m.name) (c := c) (r := r) (Fr.ofLit _ rfl) rfl rfl HG.out (fun wr hwr => ?_) hs16 (by omega) (by omega) (by omega) ?_
  · have h := HH.out.2.2 wr _ (HP.out.2.2 wr hwr)
    exact ⟨h.1, h.2.1, h.2.2.1⟩
  intro a2 f2 W2 v2 F2 k1 k4 G2
  refine hK _ _ ?_
  clear hK HG c1
  rw [F2.lit, lit150 f2, k1, k4]
  have hl20 : (put 9 ++ (put m.name.length ++ m.name) ++ (put c ++ put r)).length ≤ 100 := by
    have h1 := (put_len c (by omega)).2.1
    have h2 := (put_len r (by omega)).2.1
    have h3 := (put_len m.name.length (by omega)).2.1
    simp only [List.length_append]
    omega
  have hc2 := HP.out.2.2 _ G2.cx
  have d2 : W2.cell? ⟨w.heap.size, 0, none⟩ = some (.int .i64 9) := (hc2.cell 0).trans H0.out
  have d2r0 : W2.cell? ⟨w.heap.size, 8, none⟩ = some (.int .i64 (r0 : Nat)) := by have h := HH.out.2.2 _ _ hc2; exact h.2.2.2.1
  have d2r1 : W2.cell? ⟨w.heap.size, 9, none⟩ = some (.int .i64 (r1 : Nat)) := by have h := HH.out.2.2 _ _ hc2; exact h.2.2.2.2
  have hp2 := plain_step G2 [r0, r1] #[.int .i64 (r0 : Nat), .int .i64 (r1 : Nat)] rfl (by intro x hx; simp at hx; omega) (by simp only [List.length_cons, List.length_nil]; omega)
  rw [show plainW [r0, r1] = put r0 ++ put r1 from by simp [plainW]] at hp2
  have HG2 : Hid _ := hp2
  clear hp2 hc2 G2 k1 k4
  go_wp2_with fail
  refine (show Calls Try.prog 83 #[v2, .slice (some ⟨W2.heap.size, 0, none⟩) 2 2] _ _ from HG2.out).mono ?_
  rintro e3 W3 ⟨v3, rfl, G3⟩
  have hl3 : ((put 9 ++ (put m.name.length ++ m.name) ++ (put c ++ put r)) ++ (put r0 ++ put r1)).length ≤ 130 := by
    have h1 := (put_len r0 (by omega)).2.1
    have h2 := (put_len r1 (by omega)).2.1
    rw [List.length_append]
    simp only [List.length_append] at hl20 ⊢
    omega
  clear d2 d2r0 d2r1 HG2
  have hc3 := HP.out.2.2 _ G3.cx
  have d3 : W3.cell? ⟨w.heap.size, 0, none⟩ = some (.int .i64 9) := (hc3.cell 0).trans H0.out
  have hbY := G3.grew.below (base := w.heap.size) (by intro j e; cases e) (by have := HP.out.2.1.size; omega)
  have hfin : EncPost (some (put 9 ++ ((put m.name.length ++ m.name) ++ ((put c ++ put r) ++ (put r0 ++ put r1))))) w (.returned (.tuple #[v3, .int .i64 0])) W3 := ⟨HP.out.2.1.trans hbY, v3, rfl, by simpa [List.append_assoc] using G3.own⟩
  have HF : Hid _ := hfin
  clear hfin hbY G3 hc3
  go_wp2
  go_ret2
  have hx := HF.out
  simp only [List.append_assoc] at hx ⊢
  exact hx
end Go.Proofs.Ytneiomimjgfbpaa
