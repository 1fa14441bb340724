import Derived.Deep.LoopGhost
import Derived.Test.YtneiomimjgfbpaaJJ
import Derived.Test.YtneiomimjgfbpaaJH
import Derived.Test.YtneiomimjgfbpaaJM
import Derived.Test.YtneiomimjgfbpaaJI
import Derived.Test.YtneiomimjgfbpaaJK
import Derived.Test.YtneiomimjgfbpaaArgs
import Derived.Test.YtneiomimjgfbpaaJN
namespace Go.Proofs.Ytneiomimjgfbpaa
open Go.RowKit Go.PlainAid
set_option linter.unusedSimpArgs false
set_option linter.unusedVariables false
def vNums (x : View) : List Nat := [x.cap.toNat, x.recaps.toNat, x.version.toNat, x.down.toNat, x.up.toNat, x.held.toNat]
def vPut (x : View) : List UInt8 := (put x.name.length ++ x.name) ++ plainW (vNums x)
theorem name_putA {ab s : List UInt8} (h : nameB s = true) (hg : gt s ab = true) : (name ab).wr s = some (put s.length ++ s) := by
  have h1 := name_is ab s
  rw [h, hg] at h1
  have h2 : inB (s.length : Int) 1 16 = true := by
    simp only [nameB, Bool.and_eq_true, decide_eq_true_eq] at h
    simp only [inB, Bool.and_eq_true, decide_eq_true_eq]
    omega
  rw [name_wr, num_put h2] at h1 ⊢
  by_cases hgd : good ab s = true
  · rw [if_pos hgd]; simp
  · rw [if_neg hgd] at h1; simp at h1
theorem view_put {ab : List UInt8} {x : View} (h : rviewB x = true) (hg : gt x.name ab = true) : (view ab).wr x = some (vPut x) := by
  simp only [rviewB, knownB, rightsB, Bool.and_eq_true] at h
  obtain ⟨⟨⟨⟨⟨hn, hc⟩, hr⟩, hv⟩, hd, hu⟩, hh⟩ := h
  have e : (view ab).wr x = some _ := pair_put (name_putA hn hg) (pair_put (pair_put (num_put (lo := 1) (hi := 1099511627776) hc) (num_put (lo := 0) (hi := 1099511627776) hr)) (pair_put (num_put (lo := 0) (hi := 1099511627776) hv) (pair_put (pair_put (num_put (lo := 0) (hi := 1099511627776) hd) (num_put (lo := 0) (hi := 1099511627776) hu)) (num_put (lo := 0) (hi := 1099511627776) hh))))
  rw [e]
  simp [vPut, vNums, plainW]
theorem vlist_put : ∀ (l : List View) (ab : List UInt8), rviewsFrom ab l = true → (viewList l.length ab).wr l = some (l.flatMap vPut)
  | [], _, _ => rfl
  | x :: t, ab, h => by
    simp only [rviewsFrom, Bool.and_eq_true] at h
    have h1 := view_put h.1.1 h.1.2
    have h2 := vlist_put t x.name h.2
    show (viewList (t.length + 1) ab).wr (x :: t) = _
    simp only [viewList, Codec.map, Codec.bind, List.isEmpty_cons, Bool.not_false, if_true, h1, h2, List.flatMap_cons]
theorem views_put {l : List View} (h : rviewsB l = true) : views.wr l = some (put l.length ++ l.flatMap vPut) := by
  simp only [rviewsB, Bool.and_eq_true, decide_eq_true_eq] at h
  have h1 : (num 0 64).wr (l.length : Int) = some (put l.length) := by
    have := num_put (lo := 0) (hi := 64) (x := (l.length : Int)) (by simp only [inB, Bool.and_eq_true, decide_eq_true_eq]; omega)
    simpa using this
  have h2 := vlist_put l [] h.2
  simp only [views, Codec.map, Codec.bind, if_true, h1, Int.toNat_natCast, h2]
theorem rviews_all : ∀ (l : List View) (ab : List UInt8), rviewsFrom ab l = true → ∀ x ∈ l, rviewB x = true
  | [], _, _, _, hx => by cases hx
  | y :: t, ab, h, x, hx => by
    simp only [rviewsFrom, Bool.and_eq_true] at h
    rcases List.mem_cons.1 hx with rfl | hx
    · exact h.1.1
    · exact rviews_all t y.name h.2 x hx
theorem vPut_len {x : View} (h : rviewB x = true) : (vPut x).length ≤ 86 := by
  simp only [rviewB, knownB, rightsB, nameB, inB, Bool.and_eq_true, decide_eq_true_eq] at h
  have h1 := (put_len x.name.length (by omega)).2.1
  have h2 := plainW_len (vNums x) (by intro z hz; simp only [vNums, List.mem_cons, List.not_mem_nil, or_false] at hz; omega)
  have h3 : (vNums x).length = 6 := rfl
  simp only [vPut, List.length_append]
  omega
theorem vPuts_len {l : List View} (h : ∀ x ∈ l, rviewB x = true) : (l.flatMap vPut).length ≤ 86 * l.length := by
  induction l with
  | nil => simp
  | cons x t ih =>
    have h1 := vPut_len (h x List.mem_cons_self)
    have h2 := ih (fun y hy => h y (List.mem_cons_of_mem _ hy))
    simp only [List.flatMap_cons, List.length_append, List.length_cons]
    omega
set_option maxRecDepth 100000 in
set_option maxHeartbeats 3200000 in
theorem renc_10 (m : Msg) (ao : Option Addr) (cv : Nat) (w : World) (hf : Fit m) (hsrc : VFrom w ao m.views) (hsb : ∀ b o, ao = some ⟨b, o, none⟩ → b < w.heap.size) (hv : validB m = true) (hk : m.kind = 10) :
    Calls Try.prog 62 #[.agg (msgCells m (.slice ao m.views.length cv))] w (EncPost (message.wr m) w) := by
  have hco : rviewsB m.views = true := by
    have h := hv
    unfold validB at h
    rw [if_neg (by omega), if_pos hk] at h
    simp only [Bool.and_eq_true] at h
    exact h.2
  have hvp := views_put hco
  have hn64 : m.views.length ≤ 64 := by simp only [rviewsB, Bool.and_eq_true, decide_eq_true_eq] at hco; exact hco.1
  have hall : ∀ x ∈ m.views, rviewB x = true := by simp only [rviewsB, Bool.and_eq_true] at hco; exact rviews_all _ _ hco.2
  have hwr : message.wr m = some (put 10 ++ (put m.views.length ++ m.views.flatMap vPut)) := by
    have hs : (message.wr m).isSome = true := by rw [validB_is m hf.a1 hf.a2 hf.b1 hf.b2, hv]
    have hb : bodyW m = some (put m.views.length ++ m.views.flatMap vPut) := by
      unfold bodyW
      rw [if_neg (by omega), if_neg (by omega), if_neg (by omega), if_neg (by omega), if_neg (by omega), if_neg (by omega), if_pos hk, hvp]
    have hn : (num 1 10).wr m.kind = some (put 10) := by rw [hk]; exact num_put (by decide)
    rw [enc_is] at hs ⊢
    unfold encM fieldsW at hs ⊢
    rw [hb, hn] at hs ⊢
    simp only [join] at hs ⊢
    split at hs
    · rename_i h; rw [if_pos h]
    · cases hs
  rw [hwr]
  have hl := hf.name
  have hol := hf.oname
  have hnm := hf.names
  have hb0 : ∀ D, Below w.heap.size w (w.alloc (.cells D 35)) := fun D => (Below.refl _ _).alloc (Nat.le_refl _) _
  have hr := rvalid_any m ao cv (w.alloc (.cells (msgCells m (.slice ao m.views.length cv)) 35)) hl hol (hsrc.keep fun b o e => (hb0 _).block b (hsb b o e)) (fun b o e => by rw [World.size_alloc]; have := hsb b o e; omega) hnm
  rw [hv] at hr
  have hsz : (msgCells m (.slice ao m.views.length cv)).size = 20 := rfl
  have hD0 : (msgCells m (.slice ao m.views.length cv))[0]? = some (.int .i64 10) := by rw [← hk]; rfl
  have hD19 : (msgCells m (.slice ao m.views.length cv))[19]? = some (.slice ao m.views.length cv) := rfl
  generalize hD : msgCells m (.slice ao m.views.length cv) = D at *
  generalize hxs : m.views = xs at *
  generalize hn0 : xs.length = n at *
  have hn := hn0.symm
  clear hn0
  have hi : (Try.prog.info? 35).map (·.size) = some D.size := by rw [hsz]; kernel_rfl
  have hB : Blk (w.alloc (.cells D 35)) w.heap.size D 35 := heap_alloc_new w _
  have HH : Hid _ := And.intro hr (And.intro hb0 (And.intro hall (And.intro hn (And.intro hsrc hsb))))
  have H0 : Hid _ := And.intro hD0 hD19
  clear hr hb0 hsrc hsb hnm hl hol hD hwr hv hk hD0 hD19 hvp hco hall hn hxs hf
  go_enter Try.func62, Try.ntmps62
  go_wp2_with (first | (refine wpList_load_row rfl 35 (.tmp 1) rfl w.heap.size rfl 35 D (0, 0) _ hB Try.underlying35 rfl hi ?_) | fail)
  refine Calls.mono HH.out.1 ?_
  rintro e5 W0 ⟨rfl, hb5⟩
  have hB0 : Blk W0 w.heap.size D 35 := (hb5.block _ hB.lt).trans hB
  have hL0 : Below w.heap.size w W0 := (HH.out.2.1 _).trans (hb5.mono (HH.out.2.1 _).size)
  obtain ⟨BX, hBX⟩ : ∃ BX, BX = [(w.heap.size, D, (35 : TypeId))] := ⟨_, rfl⟩
  have hcx : ∀ wr, CX BX wr → Blk wr w.heap.size D 35 := fun wr hwr => hwr _ (by rw [hBX]; exact List.mem_cons_self)
  have G0 : WG W0 w.heap.size (.slice none 0 0) BX (.slice none 0 0) [] W0 := WG.of (World.ownsRow_nil _ _ _ _) hL0.size (fun x hx => by rw [hBX] at hx; simp only [List.mem_cons, List.not_mem_nil, or_false] at hx; rw [hx]; exact hB0) (fun x _ e => by cases e)
  have hp := plain_step G0 [10] #[.int .i64 10] rfl (by intro x hx; simp at hx; omega) (by simp)
  rw [show plainW [10] = put 10 from by simp [plainW], List.nil_append] at hp
  have c0 : W0.cell? ⟨w.heap.size, 0, none⟩ = some (.int .i64 10) := (hB0.cell 0).trans H0.out.1
  have HP : Hid _ := And.intro hp (And.intro hL0 hcx)
  clear hp hL0 G0 hB hb5 hB0 hBX hcx
  go_wp2_with fail
  refine (show Calls Try.prog 83 #[.slice none 0 0, .slice (some ⟨W0.heap.size, 0, none⟩) 1 1] _ _ from HP.out.1).mono ?_
  rintro e1 w1 ⟨v1, rfl, G1⟩
  have c1 : w1.cell? ⟨w.heap.size, 0, none⟩ = some (.int .i64 10) := ((HP.out.2.2 _ G1.cx).cell 0).trans H0.out.1
  have c19 : w1.cell? ⟨w.heap.size, 19, none⟩ = some (.slice ao n cv) := ((HP.out.2.2 _ G1.cx).cell 19).trans H0.out.2
  have hlk := (put_len 10 (by omega)).2.1
  have hp1 := plain_step G1 [n] #[.int .i64 (n : Nat)] rfl (by intro x hx; simp at hx; omega) (by simp; omega)
  rw [show plainW [n] = put n from by simp [plainW]] at hp1
  have HG : Hid _ := hp1
  clear hp1 G1 c0
  go_wp2_with fail
  refine (show Calls Try.prog 83 #[v1, .slice (some ⟨w1.heap.size, 0, none⟩) 1 1] _ _ from HG.out).mono ?_
  rintro e2 w2 ⟨v2, rfl, G2⟩
  have HG2 : Hid _ := G2
  clear G2 HG c1 c19
  go_wp2_with fail
  refine wp_loop_ghost_k (fun q a wr => ∃ (k : Nat) (f : Nat → Value) (v : Value), q = n - k ∧ k ≤ n ∧ Fr 150 a f ∧ f 1 = .pointer (some ⟨w.heap.size, 0, none⟩) ∧ f 4 = v ∧ f 5 = .int .i64 (k : Nat) ∧ WG W0 w.heap.size (.slice none 0 0) BX v (put 10 ++ put n ++ (xs.take k).flatMap vPut) wr) n ⟨0, _, _, by omega, by omega, Fr.ofLit _ rfl, rfl, rfl, rfl, by simpa using HG2.out⟩ ?_
  clear HG2
  rintro q a wr ⟨k, f, v, rfl, hkn, F, k1, k4, k5, G⟩ J K' hJ hK'
  rw [F.lit, lit150 f, k1, k4, k5]
  have hbY := G.grew.below (base := w.heap.size) (by intro j e; cases e) (by have := HP.out.2.1.size; omega)
  have hbw : Below w.heap.size w wr := HP.out.2.1.trans hbY
  have c19 : wr.cell? ⟨w.heap.size, 19, none⟩ = some (.slice ao n cv) := ((HP.out.2.2 _ G.cx).cell 19).trans H0.out.2
  obtain ⟨-, -, hall, hn, hsrc, hsb⟩ := HH.out
  have hl2 := (put_len n (by omega)).2.1
  have hlen : (put 10 ++ put n ++ (xs.take k).flatMap vPut).length ≤ 20 + 86 * 64 := by
    have h1 := vPuts_len (l := xs.take k) (fun x hx => hall x (List.mem_of_mem_take hx))
    rw [List.length_take] at h1
    simp only [List.length_append]
    omega
  by_cases hlt : k < n
  · obtain ⟨x, hx⟩ : ∃ x, xs[k]? = some x := ⟨_, List.getElem?_eq_getElem (by omega)⟩
    obtain ⟨vb, vo, rfl, hcs⟩ := vcellsB hsrc hsb hx
    obtain ⟨d0, d1, d2, d3, d4, d5, d6⟩ := hcs wr hbw
    have hrx := hall x (List.mem_of_getElem? hx)
    have htk : (xs.take (k + 1)).flatMap vPut = (xs.take k).flatMap vPut ++ vPut x := by
      rw [List.take_add_one, hx]
      simp
    have hbd := hrx
    simp only [rviewB, knownB, rightsB, nameB, inB, Bool.and_eq_true, decide_eq_true_eq] at hbd
    obtain ⟨x1, e1, ee1⟩ : ∃ x1 : Nat, x.cap = (x1 : Nat) ∧ x1 = x.cap.toNat := ⟨_, by omega, rfl⟩
    obtain ⟨x2, e2, ee2⟩ : ∃ x1 : Nat, x.recaps = (x1 : Nat) ∧ x1 = x.recaps.toNat := ⟨_, by omega, rfl⟩
    obtain ⟨x3, e3, ee3⟩ : ∃ x1 : Nat, x.version = (x1 : Nat) ∧ x1 = x.version.toNat := ⟨_, by omega, rfl⟩
    obtain ⟨x4, e4, ee4⟩ : ∃ x1 : Nat, x.down = (x1 : Nat) ∧ x1 = x.down.toNat := ⟨_, by omega, rfl⟩
    obtain ⟨x5, e5, ee5⟩ : ∃ x1 : Nat, x.up = (x1 : Nat) ∧ x1 = x.up.toNat := ⟨_, by omega, rfl⟩
    obtain ⟨x6, e6, ee6⟩ : ∃ x1 : Nat, x.held = (x1 : Nat) ∧ x1 = x.held.toNat := ⟨_, by omega, rfl⟩
    have hvx : vPut x = (put x.name.length ++ x.name) ++ plainW [x1, x2, x3, x4, x5, x6] := by simp only [vPut, vNums, ee1, ee2, ee3, ee4, ee5, ee6]
    have hbs : x1 < 9223372036854775808 ∧ x2 < 9223372036854775808 ∧ x3 < 9223372036854775808 ∧ x4 < 9223372036854775808 ∧ x5 < 9223372036854775808 ∧ x6 < 9223372036854775808 ∧ x.name.length ≤ 16 := by omega
    rw [e1] at d1
    rw [e2] at d2
    rw [e3] at d3
    rw [e4] at d4
    rw [e5] at d5
    rw [e6] at d6
    have HX : Hid _ := And.intro htk (And.intro hvx (And.intro hbs (And.intro G hlen)))
    have HJ : Hid _ := hJ
    clear htk hvx hbs G hlen hbY hbw hall hn hsrc hsb hcs hrx hbd e1 e2 e3 e4 e5 e6 ee1 ee2 ee3 ee4 ee5 ee6 hx hJ k1 k4 k5 F
    go_wp2_with fail
    rename_i K hK
    have GB := HX.out.2.2.2.1.box #[.string ⟨x.name.toArray⟩, .int .i64 (x1 : Nat), .int .i64 (x2 : Nat), .int .i64 (x3 : Nat), .int .i64 (x4 : Nat), .int .i64 (x5 : Nat), .int .i64 (x6 : Nat)] 106
    obtain ⟨q1, q2, q3, q4, q5, q6, q7⟩ := HX.out.2.2.1
    refine enc18 (Fr.ofLit _ rfl) rfl rfl rfl rfl GB (fun wr' hwr' => ?_) q7 q1 q2 q3 q4 q5 q6 (by have := HX.out.2.2.2.2; omega) ?_
    · have hb := hwr' _ List.mem_cons_self
      exact ⟨hb.cell 0, hb.cell 1, hb.cell 2, hb.cell 3, hb.cell 4, hb.cell 5, hb.cell 6⟩
    intro a3 f3 W3 v3 F3 j1 j4 j5 G3
    refine hK _ _ ?_
    clear hK GB c19 d0 d1 d2 d3 d4 d5 d6 q1 q2 q3 q4 q5 q6 q7
    rw [F3.lit, lit150 f3, j1, j4, j5]
    have G4 : WG W0 w.heap.size (.slice none 0 0) BX v3 (put 10 ++ put n ++ (xs.take (k + 1)).flatMap vPut) W3 := by
      have := G3.unbox
      rw [HX.out.1, HX.out.2.1]
      simpa [List.append_assoc] using this
    have HG4 : Hid _ := G4
    clear G3 G4 j1 j4 j5 F3
    go_wp2
    try refine hK' _ _ ?_
    exact Handed.intro (n - (k + 1)) (by omega) (HJ.out _ _ _ ⟨k + 1, _, _, rfl, by omega, Fr.ofLit _ rfl, rfl, rfl, by go_num, HG4.out⟩)
  · obtain rfl : k = n := by omega
    have hfin : EncPost (some (put 10 ++ (put k ++ xs.flatMap vPut))) w (.returned (.tuple #[v, .int .i64 0])) wr := ⟨hbw, v, rfl, by have := G.own; rw [List.take_of_length_le (by omega)] at this; simpa [List.append_assoc] using this⟩
    have HF : Hid _ := hfin
    clear hfin hbY hbw G hlen hall hn hsrc hsb k1 k4 k5 F hJ hK'
    go_wp2
    go_ret2
    have hx := HF.out
    simp only [List.append_assoc] at hx ⊢
    exact hx
end Go.Proofs.Ytneiomimjgfbpaa
namespace Go.Proofs.Ytneiomimjgfbpaa
open Go.RowKit Go.PlainAid
theorem renc_any (m : Msg) (ao : Option Addr) (cv : Nat) (w : World) (hf : Fit m) (hsrc : VFrom w ao m.views) (hsb : ∀ b o, ao = some ⟨b, o, none⟩ → b < w.heap.size) :
    Calls Try.prog 62 #[.agg (msgCells m (.slice ao m.views.length cv))] w (EncPost (message.wr m) w) := by
  have hi := validB_is m hf.a1 hf.a2 hf.b1 hf.b2
  cases hv : validB m with
  | false =>
    rw [hv] at hi
    have e : message.wr m = none := by
      cases h : message.wr m with
      | none => rfl
      | some _ => rw [h] at hi; cases hi
    rw [e]
    exact renc_no m ao cv w hf.name hf.oname hsrc hsb hf.names hv
  | true =>
    have hk : 1 ≤ m.kind ∧ m.kind ≤ 10 := by
      have h := hv
      unfold validB at h
      simp only [Bool.and_eq_true, inB, decide_eq_true_eq] at h
      exact h.1.1
    rcases (show m.kind = 1 ∨ m.kind = 2 ∨ m.kind = 3 ∨ m.kind = 4 ∨ m.kind = 5 ∨ m.kind = 6 ∨ m.kind = 7 ∨ m.kind = 8 ∨ m.kind = 9 ∨ m.kind = 10 by omega) with h | h | h | h | h | h | h | h | h | h
    · exact renc_1 m ao cv w hf hsrc hsb hv h
    · cases hc : hasCap m.err with
      | false => exact renc_2n m ao cv w hf hsrc hsb hv h hc
      | true =>
        simp only [hasCap, Bool.or_eq_true, beq_iff_eq] at hc
        rcases hc with hc | hc
        · exact renc_2c m ao cv w hf hsrc hsb hv h 0 hc (Or.inl rfl)
        · exact renc_2c m ao cv w hf hsrc hsb hv h 101 hc (Or.inr rfl)
    · exact renc_3 m ao cv w hf hsrc hsb hv h
    · exact renc_4 m ao cv w hf hsrc hsb hv h
    · exact renc_5 m ao cv w hf hsrc hsb hv h
    · exact renc_6 m ao cv w hf hsrc hsb hv h
    · exact renc_7 m ao cv w hf hsrc hsb hv h
    · exact renc_8 m ao cv w hf hsrc hsb hv h
    · exact renc_9 m ao cv w hf hsrc hsb hv h
    · exact renc_10 m ao cv w hf hsrc hsb hv h
end Go.Proofs.Ytneiomimjgfbpaa
namespace Go.Proofs.Ytneiomimjgfbpaa
open Go.RowKit Go.PlainAid
set_option linter.unusedSimpArgs false
set_option linter.unusedVariables false
set_option maxRecDepth 100000 in
set_option maxHeartbeats 1600000 in
theorem enc_law (m : Msg) (ao : Option Addr) (cv : Nat) (w : World) (hf : Fit m) (hsrc : VFrom w ao m.views) (hsb : ∀ b o, ao = some ⟨b, o, none⟩ → b < w.heap.size) (hnil : ao = none → m.views = [] ∧ cv = 0) (hao : ∀ a, ao = some a → a = ⟨a.block, a.off, none⟩) (hlen : m.views.length < 2199023255552) :
    Calls Try.prog 7 #[.agg (msgCells m (.slice ao m.views.length cv))] w fun e w' => e = .returned (.bool true) ∧ Below w.heap.size w w' := by
  have HQ : Hid _ := fun (W : World) h1 h2 => encodes_of renc_any m ao cv W hf h1 h2 hnil hao hlen
  have HS : Hid _ := And.intro hsrc hsb
  have hsz : (msgCells m (.slice ao m.views.length cv)).size = 20 := rfl
  generalize msgCells m (.slice ao m.views.length cv) = D at *
  have hi : (Try.prog.info? 35).map (·.size) = some D.size := by rw [hsz]; kernel_rfl
  have hB : Blk (w.alloc (.cells D 35)) w.heap.size D 35 := heap_alloc_new w _
  have hb0 : Below w.heap.size w (w.alloc (.cells D 35)) := (Below.refl _ _).alloc (Nat.le_refl _) _
  have hable := able_any (w.alloc (.cells D 35))
  have HB0 : Hid _ := And.intro hb0 hB
  clear hsrc hsb hf hnil hao hb0 hB
  go_enter Try.func7, Try.ntmps7
  go_wp2_with fail
  refine hable.mono ?_
  rintro e9 w9 ⟨rfl, hb9⟩
  have hB9 : Blk w9 w.heap.size D 35 := (hb9.block _ HB0.out.2.lt).trans HB0.out.2
  have hL9 : Below w.heap.size w w9 := HB0.out.1.trans (hb9.mono HB0.out.1.size)
  have hq := HQ.out w9 (HS.out.1.keep fun b o e => hL9.block b (HS.out.2 b o e)) (fun b o e => by have := HS.out.2 b o e; have := hL9.size; omega)
  have HB : Hid _ := hL9
  clear hable hb9 hL9 HQ HS
  go_wp2_with (first | (refine load_row_g 35 (.tmp 1) rfl (by rfl) w.heap.size rfl 35 D (0, 0) _ hB9 Try.underlying35 hi ?_) | (go_at_call 28; refine hq.mono ?_; rintro e27 w27 ⟨rfl, hb27⟩) | fail)
  go_ret
  exact ⟨rfl, HB.out.trans (hb27.mono HB.out.size)⟩
end Go.Proofs.Ytneiomimjgfbpaa
namespace Go.Proofs.Ytneiomimjgfbpaa
open Go.ChangeShapes Go.WideShapes Go.ChangeAt Go.RowKit Go.WideMaps Go.WideElems
set_option linter.unusedSimpArgs false
set_option maxRecDepth 100000 in
theorem has_ltS {W : World} {base n : Nat} {a : Addr} {e : TypeId} (h : W.has Try.prog .any base a e n) : a.block < W.heap.size ∧ a.spot = none := by
  obtain ⟨_, hsp, row, cells, hs, _⟩ := h
  refine ⟨?_, hsp⟩
  unfold World.shape? at hs
  cases hb : W.heap[a.block]? with
  | none => rw [hb] at hs; cases hs
  | some x => exact (Array.getElem?_eq_some_iff.1 hb).1
set_option maxRecDepth 100000 in
theorem slice_ltS {W : World} {base n c : Nat} {ao : Option Addr} {t e : TypeId} (hu : Try.prog.underlying t = some (.slice e)) (h : Cell.okWide Try.prog W .any base t (.slice ao n c)) : (∀ b o, ao = some ⟨b, o, none⟩ → b < W.heap.size) ∧ (ao = none ∨ ∃ b off, ao = some ⟨b, off, none⟩) := by
  cases ao with
  | none => exact ⟨fun b o e => (by cases e), Or.inl rfl⟩
  | some a =>
    simp only [Cell.okWide, Cell.ok, hu] at h
    obtain ⟨h1, h2⟩ := has_ltS h.2.2
    obtain ⟨b, o, s⟩ := a
    simp only at h2
    subst h2
    exact ⟨fun b' o' e => by cases e; exact h1, Or.inr ⟨b, o, rfl⟩⟩
theorem types35 : Try.prog.cellTypes Try.prog.depth 35 = some [3, 9, 3, 3, 3, 3, 3, 3, 3, 3, 3, 3, 3, 3, 9, 3, 3, 32, 3, 33] := by kernel_rfl
set_option maxRecDepth 100000 in
theorem msg_lt {W : World} {base : Nat} {m : Msg} {ao : Option Addr} {cv : Nat} (h : Value.okWide Try.prog W .any base 35 (.agg (msgCells m (.slice ao m.views.length cv)))) : ∀ b o, ao = some ⟨b, o, none⟩ → b < W.heap.size := by
  simp only [Value.okWide, Try.underlying35] at h
  obtain ⟨cs, e, _, ts, hts, _, hr⟩ := h
  cases e
  rw [types35] at hts
  cases hts
  obtain ⟨u, hu, hc⟩ := hr 19 (.slice ao m.views.length cv) rfl
  cases hu
  exact (slice_ltS Try.underlying33 hc).1
set_option maxRecDepth 100000 in
theorem msg_form {W : World} {base : Nat} {m : Msg} {ao : Option Addr} {cv : Nat} (h : Value.okWide Try.prog W .any base 35 (.agg (msgCells m (.slice ao m.views.length cv)))) : (ao = none → m.views = [] ∧ cv = 0) ∧ ∀ a, ao = some a → a = ⟨a.block, a.off, none⟩ := by
  simp only [Value.okWide, Try.underlying35] at h
  obtain ⟨cs, e, _, ts, hts, _, hr⟩ := h
  cases e
  rw [types35] at hts
  cases hts
  obtain ⟨u, hu, hc⟩ := hr 19 (.slice ao m.views.length cv) rfl
  cases hu
  have hx := (slice_ltS Try.underlying33 hc).2
  refine ⟨fun e => ?_, fun a e => ?_⟩
  · subst e
    generalize hk : m.views.length = k at hc
    cases k with
    | zero =>
      cases cv with
      | zero => exact ⟨List.eq_nil_of_length_eq_zero hk, rfl⟩
      | succ c => simp [Cell.okWide, Cell.ok, Try.underlying33] at hc
    | succ k => cases cv <;> simp [Cell.okWide, Cell.ok, Try.underlying33] at hc
  · subst e
    rcases hx with h | ⟨b, o, h⟩
    · cases h
    · cases h; rfl
end Go.Proofs.Ytneiomimjgfbpaa
namespace Go.Proofs.Ytneiomimjgfbpaa.wireEncodes
open Go.ChangeShapes Go.WideShapes Go.ChangeAt Go.RowKit Go.WideMaps Go.WideElems
set_option maxRecDepth 100000 in
set_option maxHeartbeats 1600000 in
theorem contract (H : Type) (enc : TypeId × Value → H) (W : World) (base : Nat) (args : Array Value) (ds gs : List (DataW H)) (before : List MemPlace)
    (hval : ∀ (j : Nat) t v, Try.f7.params[j]? = some t → args[j]? = some v → Value.okWide Try.prog W .any base t v)
    (hW : DataW.Whole enc Try.prog Try.f7.params.toList Rows.wireEncodesSpec.vars false W args.toList ds gs before)
    (hsz : (DataW.weightsEach Try.prog (Try.f7.params.toList ++ Rows.wireEncodesSpec.plain.varTypes Try.prog) (ds ++ gs)).all (· ≤ reachBytes) = true) :
    Calls Try.prog 7 args W fun e W' => ∃ v, e = .returned v ∧ Rows.wireEncodesSpec.post enc Try.prog Try.f7 false true false false W args v W' := by
  have hW' := hW
  obtain ⟨p, q, hA0, hV, rfl, hfz, hnd⟩ := hW
  have hA : DataW.TrodAll enc Try.prog W 0 (fun _ => true) true Try.f7.params.toList args.toList ds p := hA0
  rw [Try.params7] at hA hval
  obtain ⟨v0, vs0, d0, ds0, p0, q0, hargs, rfl, rfl, h0, r0⟩ := trodAll_cons hA
  obtain ⟨rfl, rfl, rfl⟩ := trodAll_nil r0
  obtain rfl : args = #[v0] := by cases args; simp_all
  obtain ⟨rfl, rfl⟩ := trodVars_none hV
  clear hA0 r0 hA
  have hlt0 : ∀ x ∈ p0, x.block < W.heap.size := fun x hx => hW'.lt x (by simp [hx])
  have hw0 : ∀ n ∈ d0.weights Try.prog 35, n ≤ reachBytes := fun n hn => by
    have := List.all_eq_true.1 hsz n (DataW.weights_mem_each (j := 0) (t := 35) (d := d0) (by rw [Try.params7]; rfl) rfl n hn)
    simpa using this
  obtain ⟨m, ao, cv, rfl, hvf, hl, hol, ha, hb, hnm, hml⟩ := open_msg (hval 0 35 v0 rfl rfl) h0 hw0
  have hsb := msg_lt (hval 0 35 _ rfl rfl)
  obtain ⟨hnil, hao⟩ := msg_form (hval 0 35 _ rfl rfl)
  have hf : Fit m := ⟨by omega, by omega, ha.1, ha.2, hb.1, hb.2, by omega, fun x hx => by have := hnm x hx; omega⟩
  refine (enc_law m ao cv W hf hvf hsb hnil hao hml).mono fun e W' ⟨he, hbl⟩ => ?_
  subst he
  exact ⟨_, rfl, _, _, _, [], _, [], hW', trodAll_cons_mk (shut_bool Try.underlying4 _) trodAll_mk0, trodAll_cons_mk (Below.trod laidOut (by kernel_rfl) (of_decide_eq_true (by kernel_rfl)) h0 hbl hlt0) trodAll_mk0, rfl, hbl.frame _, fun h => by cases h⟩
set_option maxRecDepth 100000 in
theorem lifted (os : Os) (started : os.Started) (H : Type) (enc : TypeId × Value → H) :
    ReturnsInHanded {} Try.checked os 7 .any (Rows.wireEncodesSpec.pre6 enc Try.prog Try.f7 Rows.wireEncodesRow.domain false) (Rows.wireEncodesSpec.post enc Try.prog Try.f7 false true false false) := by
  refine returnsInHanded_of_change_sized (C := Try.checked) (s := Rows.wireEncodesSpec) own started (by kernel_rfl) Try.func7
    (ChangeSpec.witness6 (enc := enc) (C := Try.checked) (s := Rows.wireEncodesSpec) false ⟨#[], #[.agg zeroC], []⟩ 8 (by kernel_rfl) (by kernel_rfl) (by kernel_rfl) (by kernel_rfl)) ?_
  intro W base args ds gs before hval hW _ hsz _
  exact contract H enc W base args ds gs before hval hW hsz
theorem said : Rows.WireEncodesSaid :=
  OpenClaim.holds_of_wide 7 Try.f7 rfl rfl rfl rfl rfl rfl rfl ⟨rfl, rfl, rfl, rfl, rfl⟩ rfl rfl rfl rfl rfl (by kernel_rfl) Try.func7 (by kernel_rfl)
    (of_decide_eq_true (by kernel_rfl)) (by unfold Func.isWrapper; first | (rw [if_pos (by decide +kernel)]; kernel_rfl) | (rw [if_neg (by decide +kernel)]; exact ⟨rfl, rfl⟩))
    (fun os started H enc _ => lifted os started H enc)
end Go.Proofs.Ytneiomimjgfbpaa.wireEncodes
namespace Go.Proofs.Ytneiomimjgfbpaa
theorem wireEncodes_said : Rows.WireEncodesSaid := wireEncodes.said
end Go.Proofs.Ytneiomimjgfbpaa
