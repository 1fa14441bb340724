import Derived.Test.YtlajcaofpmjdlaaIx
namespace Go.Proofs.Ytlajcaofpmjdlaa
open Go.RowKit Go.PlainAid
set_option linter.unusedVariables false
set_option linter.unusedSimpArgs false
section
variable {α : Type} (f : α → List Value) (n : Nat) (hf : ∀ a, (f a).length = n)
include hf
theorem flat_len : ∀ l : List α, (l.flatMap f).length = l.length * n
  | [] => by simp
  | a :: t => by rw [List.flatMap_cons, List.length_append, hf, flat_len t, List.length_cons, Nat.succ_mul]; omega
theorem flat_at : ∀ (l : List α) (i j : Nat) (a : α), l[i]? = some a → j < n → (l.flatMap f)[i * n + j]? = (f a)[j]?
  | [], i, j, a, h, _ => by simp at h
  | b :: t, 0, j, a, h, hj => by
    simp at h
    subst h
    rw [List.flatMap_cons, Nat.zero_mul, Nat.zero_add, List.getElem?_append_left (by rw [hf]; exact hj)]
  | b :: t, i + 1, j, a, h, hj => by
    rw [List.flatMap_cons, List.getElem?_append_right (by rw [hf, Nat.succ_mul]; omega), hf, show (i + 1) * n + j - n = i * n + j from by rw [Nat.succ_mul]; omega]
    exact flat_at t i j a (by simpa using h) hj
theorem flat_take : ∀ (l : List α) (i : Nat), (l.flatMap f).take (i * n) = (l.take i).flatMap f
  | [], i => by simp
  | a :: t, 0 => by simp
  | a :: t, i + 1 => by
    rw [List.flatMap_cons, List.take_succ_cons, List.flatMap_cons, Nat.succ_mul, Nat.add_comm, show n = (f a).length from (hf a).symm, List.take_length_add_append, hf, flat_take t i]
theorem flat_drop : ∀ (l : List α) (i : Nat), (l.flatMap f).drop (i * n) = (l.drop i).flatMap f
  | [], i => by simp
  | a :: t, 0 => by simp
  | a :: t, i + 1 => by
    rw [List.flatMap_cons, List.drop_succ_cons, Nat.succ_mul, Nat.add_comm, show n = (f a).length from (hf a).symm, List.drop_length_add_append, hf, flat_drop t i]
end
theorem row_ne0 {w : World} {L e sz n k T g : Nat} {v : Value} {xs : List Value} {C : Array Value} (h : w.ownsRow L e sz v n xs) (hg : v.ownBlock = some g) (hB : Blk w k C T) (hT : e ≠ T) : ¬ g = k := by
  obtain ⟨cur, hcur⟩ := ownsRow_type h hg
  exact Blk.ne_t hcur hB hT
theorem own_slice' {w : World} {base n e s : Nat} {v : Value} {xs : List Value} (h : w.ownsRow base e s v n xs) : ∃ ao cap, v = .slice ao n cap ∧ n ≤ cap := own_slice h
/-- A raw write. -/
structure RE where
  s : Nat
  m : Nat
  v : Value
  bs : List UInt8
def RE.row (g : RE) : List Value := [.int .i64 (g.s : Int), .int .i64 (g.m : Int), g.v]
def flatR (l : List RE) : List Value := l.flatMap RE.row
theorem flatR_len (l : List RE) : (flatR l).length = l.length * 3 := flat_len RE.row 3 (fun _ => rfl) l
/-- The document's disk. -/
structure RV where
  n : Nat
  first : List UInt8
  log : List RE
  on : Bool
  left : Int
  torn : Nat
def RV.cs (x : RV) (fv lv : Value) : Array Value := #[.int .i64 (x.n : Int), fv, lv, .bool x.on, .int .i64 x.left, .int .i64 (x.torn : Int)]
structure RM (L rb : Nat) (fv lv : Value) (x : RV) (w : World) : Prop where
  b : Blk w rb (x.cs fv lv) 86
  f : w.ownsRow L 5 1 fv x.first.length (x.first.map B)
  l : w.ownsRow L 92 3 lv x.log.length (flatR x.log)
  d : ∀ g ∈ x.log, w.ownsRow L 5 1 g.v 512 (g.bs.map B)
  lo : L ≤ rb
  nb : 1 ≤ x.n ∧ x.n ≤ 65536
  sz : ∀ g ∈ x.log, g.s < x.n ∧ g.m ≤ 512 ∧ g.bs.length = 512
  fl : x.first = [] ∨ x.first.length = x.n * 512
def rown (rb : Nat) (fv lv : Value) (x : RV) (k : Nat) : Prop := k = rb ∨ fv.ownBlock = some k ∨ lv.ownBlock = some k ∨ ∃ g ∈ x.log, g.v.ownBlock = some k
section
variable {L rb : Nat} {fv lv : Value} {x : RV} {w w' : World}
theorem RM.lt (h : RM L rb fv lv x w) {k : Nat} (hk : rown rb fv lv x k) : L ≤ k ∧ k < w.heap.size := by
  rcases hk with rfl | e | e | ⟨g, hg, e⟩
  · exact ⟨h.lo, h.b.lt⟩
  · exact ownsRow_lt h.f e
  · exact h.l.lt k e
  · exact ownsRow_lt (h.d g hg) e
theorem RM.same (h : RM L rb fv lv x w) (hs : ∀ k, rown rb fv lv x k → w'.heap[k]? = w.heap[k]?) : RM L rb fv lv x w' :=
  ⟨(hs rb (.inl rfl)).trans h.b, ownsRow_same h.f (fun g e => hs g (.inr (.inl e))), ownsRow_same h.l (fun g e => hs g (.inr (.inr (.inl e)))), fun g hg => ownsRow_same (h.d g hg) (fun k e => hs k (.inr (.inr (.inr ⟨g, hg, e⟩)))), h.lo, h.nb, h.sz, h.fl⟩
theorem RM.keep (h : RM L rb fv lv x w) {S : Nat → Prop} (hc : Chg S w w') (hS : ∀ k, rown rb fv lv x k → ¬ S k) : RM L rb fv lv x w' := h.same fun k hk => hc.block k (h.lt hk).2 (hS k hk)
theorem RM.more (h : RM L rb fv lv x w) (hb : Below w.heap.size w w') : RM L rb fv lv x w' := h.keep (Chg.ofBelow (fun _ => False) hb) (fun _ _ e => e)
/-- What changes in the box alone. -/
theorem RM.setBox (h : RM L rb fv lv x w) (j : Nat) (v : Value) {y : RV} (hn : y.n = x.n) (hf : y.first = x.first) (hl : y.log = x.log) (hc : (x.cs fv lv).setIfInBounds j v = y.cs fv lv) : RM L rb fv lv y (w.setCell ⟨rb, j, none⟩ v) := by
  have hch := setCell_chg w rb j v
  refine ⟨by rw [← hc]; exact h.b.set j v, ?_, ?_, ?_, h.lo, by rw [hn]; exact h.nb, by rw [hl, hn]; exact h.sz, by rw [hf, hn]; exact h.fl⟩
  · rw [hf]
    exact ownsRow_same h.f (fun g e => hch.block g (ownsRow_lt h.f e).2 (row_ne0 h.f e h.b (by decide)))
  · rw [hl]
    exact ownsRow_same h.l (fun g e => hch.block g (h.l.lt g e).2 (row_ne0 h.l e h.b (by decide)))
  · rw [hl]
    exact fun g hg => ownsRow_same (h.d g hg) (fun k e => hch.block k (ownsRow_lt (h.d g hg) e).2 (row_ne0 (h.d g hg) e h.b (by decide)))
end
set_option maxRecDepth 100000 in
set_option maxHeartbeats 1600000 in
theorem copied_any {v : Value} {s : List UInt8} (w : World) (h : By w v s) (hs : s.length ≤ 1000000000) :
    Calls Try.prog 44 #[v] w fun e w' => ∃ v', e = .returned v' ∧ w'.ownsRow w.heap.size 5 1 v' s.length (s.map B) ∧ Below w.heap.size w w' := by
  obtain ⟨ao, n, cap, rfl, hn, h0, hc⟩ := h
  have HN : Hid (s.length = n) := hn
  have HC : Hid (∀ ad, ao = some ad → ∀ j u, (s.map B)[j]? = some u → w.cell? (ad.add j) = some u) := hc
  have H0 : Hid (ao = none → n = 0) := fun e => (h0 e).1
  have hnl : n ≤ 1000000000 := by omega
  clear hn hc h0 hs
  go_enter Try.func44, Try.ntmps44
  go_wp2_with fail
  go_loopw [4, 3] (fun s4 s3 wr => ∃ vd, vd = s3 ∧ ∃ i : Nat, i ≤ n ∧ s4 = .int .i64 (i : Int) ∧ wr.ownsRow w.heap.size 5 1 vd i ((s.take i).map B) ∧ Below w.heap.size w wr) (fun s4 _ _ => n - (intOf s4).toNat)
  case atStart => exact ⟨_, rfl, 0, Nat.zero_le _, rfl, World.ownsRow_nil _ _ _ _, Below.refl _ _⟩
  case round =>
    obtain ⟨vd, rfl, i, hi, rfl, hr, hb⟩ := hrel
    obtain ⟨vo, vc, hvd, _⟩ := own_slice hr
    by_cases hlt : i < n
    · cases ao with
      | none => have := H0.out rfl; omega
      | some ad =>
        have hlt' : i < s.length := by rw [HN.out]; exact hlt
        obtain ⟨b, hbb⟩ : ∃ b, s[i]? = some b := ⟨s[i], List.getElem?_eq_getElem hlt'⟩
        have h1 := HC.out ad rfl i (B b) (by rw [List.getElem?_map, hbb]; rfl)
        have cu : wr.cell? (ad.add i) = some (.int .u8 (b.toNat : Int)) := (hb.cell (World.block_lt_of_cell? w _ h1)).trans h1
        obtain ⟨v5, w5, hr5, ho5, hg5⟩ := app_bytesB hr hb.size [b] (by simp; omega)
        have HHR : Hid (∀ ty, (Builtin.append_ #[30, 30] ty #[vd, .slice (some ⟨wr.heap.size, 0, none⟩) 1 1]).run Try.prog (wr.alloc (.cells #[.int .u8 (b.toNat : Int)] 5)) = .ok v5 w5) := hr5
        have HO5 : Hid (w5.ownsRow w.heap.size 5 1 v5 (i + 1) ((s.take (i + 1)).map B)) := show World.ownsRow _ _ _ _ _ _ _ from by
          rw [List.take_add_one, hbb]
          simpa using ho5
        have HB5 : Hid (Below w.heap.size w w5) := show Below w.heap.size w w5 from hb.trans (hg5.below (fun q hq => (ownsRow_lt hr hq).1) hb.size)
        subst hvd
        clear hr hb hr5 ho5 hg5 h1 hbb hlt'
        go_wp2_with (at_builtin; refine wpList_runs rfl _ _ 30 rfl rfl rfl HHR.out ?_)
        go_roundw
        case rel => exact ⟨_, rfl, i + 1, by omega, by go_num, HO5.out, HB5.out⟩
        case measure => simp [intOf]; omega
    · obtain rfl : i = n := by omega
      have htk : s.take i = s := List.take_of_length_le (by rw [HN.out]; exact Nat.le_refl _)
      rw [htk] at hr
      have HF : Hid (wr.ownsRow w.heap.size 5 1 vd s.length (s.map B) ∧ Below w.heap.size w wr) := ⟨by rw [HN.out]; exact hr, hb⟩
      subst hvd
      clear hr hb htk
      go_wp2_with fail
      go_ret
      exact ⟨_, rfl, HF.out.1, HF.out.2⟩
set_option maxRecDepth 100000 in
theorem rnew_no (i : Int) (w : World) (h : i < 1 ∨ 65536 < i) : Calls Try.prog 37 #[.int .i64 i] w fun e w' => e = .returned (.tuple #[.pointer none, .int .i64 1]) ∧ w' = w := by
  by_cases h1 : i < 1
  · go_enter Try.func37, Try.ntmps37
    go_wp2_with fail
    go_ret2
    exact ⟨rfl, rfl⟩
  · have h2 : 65536 < i := by omega
    go_enter Try.func37, Try.ntmps37
    go_wp2_with fail
    go_ret2
    exact ⟨rfl, rfl⟩
def rfresh (n : Nat) (bs : List UInt8) : RV := ⟨n, bs, [], true, -1, 0⟩
set_option maxRecDepth 100000 in
set_option maxHeartbeats 800000 in
theorem rnew_yes (n : Nat) (w : World) (hn : 1 ≤ n ∧ n ≤ 65536) : Calls Try.prog 37 #[.int .i64 (n : Int)] w fun e w' => e = .returned (.tuple #[.pointer (some ⟨w.heap.size, 0, none⟩), .int .i64 0]) ∧ RM w.heap.size w.heap.size (.slice none 0 0) (.slice none 0 0) (rfresh n []) w' ∧ Below w.heap.size w w' := by
  obtain ⟨h1, h2⟩ := hn
  go_enter Try.func37, Try.ntmps37
  go_wp2_with fail
  go_ret2
  refine ⟨rfl, ⟨heap_alloc_new w _, World.ownsRow_nil _ _ _ _, World.ownsRow_nil _ _ _ _, (fun g hg => by cases hg), Nat.le_refl _, ⟨h1, h2⟩, (fun g hg => by cases hg), Or.inl rfl⟩, (Below.refl _ _).alloc (Nat.le_refl _) _⟩
set_option maxRecDepth 100000 in
set_option maxHeartbeats 800000 in
theorem rfrom_odd {ao : Option Addr} {k c : Nat} (w : World) (h : k % 512 ≠ 0) : Calls Try.prog 39 #[.slice ao k c] w fun e w' => e = .returned (.tuple #[.pointer none, .int .i64 1]) ∧ w' = w := by
  have ht : ((k : Int)).tmod 512 = ((k % 512 : Nat) : Int) := by rw [Int.tmod_eq_emod_of_nonneg (by omega)]; omega
  have h1 : (((k : Int)).tmod 512 != 0) = true := by rw [ht]; simp; omega
  have h2 : ¬ (((k : Int)).tmod 512 = 0) := by rw [ht]; omega
  have h3 : (((k : Int)).tmod 512 == 0) = false := by rw [ht]; simp; omega
  have h4 : ¬ ((k : Int) % 512 = 0) := by omega
  have h5 : ((k : Int) == 0) = false := by simp; omega
  have h6 : ¬ ((k : Int) = 0) := by omega
  clear ht
  go_enter Try.func39, Try.ntmps39
  go_wp2_with fail
  go_ret2
  exact ⟨rfl, rfl⟩
set_option maxRecDepth 100000 in
set_option maxHeartbeats 800000 in
theorem rfrom_no {ao : Option Addr} {n c : Nat} (w : World) (hn : n < 1 ∨ 65536 < n) (hnb : n ≤ 18014398509481983) : Calls Try.prog 39 #[.slice ao (n * 512) c] w fun e w' => e = .returned (.tuple #[.pointer none, .int .i64 1]) ∧ w' = w := by
  by_cases h0 : n = 0
  · subst h0
    rw [Nat.zero_mul]
    clear hn hnb
    go_enter Try.func39, Try.ntmps39
    go_wp2_with fail
    go_ret2
    exact ⟨rfl, rfl⟩
  · obtain ⟨k, hk⟩ : ∃ k, k = n * 512 := ⟨_, rfl⟩
    have ht : ((k : Int)).tmod 512 = 0 := by rw [Int.tmod_eq_emod_of_nonneg (by omega)]; omega
    have hd : ((k : Int)).tdiv 512 = (n : Int) := by rw [Int.tdiv_eq_ediv_of_nonneg (by omega)]; omega
    rw [← hk]
    have ht2 : (k : Int) % 512 = 0 := by omega
    have hd2 : (k : Int) / 512 = (n : Int) := by omega
    have h5 : ((k : Int) == 0) = false := by simp; omega
    have h6 : ¬ ((k : Int) = 0) := by omega
    have h7 : (65536 : Int) < (n : Int) := by omega
    clear hk
    go_enter Try.func39, Try.ntmps39
    go_wp2_with fail
    go_ret2
    exact ⟨rfl, rfl⟩
set_option maxRecDepth 100000 in
set_option maxHeartbeats 800000 in
theorem rfrom_yes {ao : Option Addr} {n c : Nat} {bs : List UInt8} (w : World) (hn : 1 ≤ n ∧ n ≤ 65536) (hb : By w (.slice ao (n * 512) c) bs) :
    Calls Try.prog 39 #[.slice ao (n * 512) c] w fun e w' => ∃ rb fv, e = .returned (.tuple #[.pointer (some ⟨rb, 0, none⟩), .int .i64 0]) ∧ RM w.heap.size rb fv (.slice none 0 0) (rfresh n bs) w' ∧ Below w.heap.size w w' := by
  obtain ⟨h1, h2⟩ := hn
  have hlen : bs.length = n * 512 := by
    obtain ⟨ao, k', c', e, h1, _⟩ := hb
    cases e
    exact h1
  have HCP : Hid _ := copied_any w hb (by omega)
  obtain ⟨k, hk⟩ : ∃ k, k = n * 512 := ⟨_, rfl⟩
  have HLEN : Hid (bs.length = n * 512) := hlen
  have ht : ((k : Int)).tmod 512 = 0 := by rw [Int.tmod_eq_emod_of_nonneg (by omega)]; omega
  have hd : ((k : Int)).tdiv 512 = (n : Int) := by rw [Int.tdiv_eq_ediv_of_nonneg (by omega)]; omega
  rw [← hk] at HCP ⊢
  have ht2 : (k : Int) % 512 = 0 := by omega
  have hd2 : (k : Int) / 512 = (n : Int) := by omega
  have h5 : ((k : Int) == 0) = false := by simp; omega
  have h6 : ¬ ((k : Int) = 0) := by omega
  clear hk hlen hb
  go_enter Try.func39, Try.ntmps39
  go_wp2_with fail
  refine Calls.mono HCP.out ?_
  rintro e w1 ⟨v1, rfl, hr1, hb1⟩
  have hal : Below w.heap.size w1 (w1.alloc (.cells ((rfresh n bs).cs v1 (.slice none 0 0)) 86)) := (Below.refl _ _).alloc hb1.size _
  have hr2 : (w1.alloc (.cells ((rfresh n bs).cs v1 (.slice none 0 0)) 86)).ownsRow w.heap.size 5 1 v1 bs.length (bs.map B) := hr1.alloc _
  have HF : Hid (RM w.heap.size w1.heap.size v1 (.slice none 0 0) (rfresh n bs) (w1.alloc (.cells ((rfresh n bs).cs v1 (.slice none 0 0)) 86)) ∧ Below w.heap.size w (w1.alloc (.cells ((rfresh n bs).cs v1 (.slice none 0 0)) 86))) := ⟨⟨heap_alloc_new w1 _, hr2, World.ownsRow_nil _ _ _ _, (fun g hg => by cases hg), hb1.size, ⟨h1, h2⟩, (fun g hg => by cases hg), Or.inr HLEN.out⟩, hb1.trans hal⟩
  obtain ⟨vo, vc, hv1, _⟩ := own_slice hr1
  subst hv1
  clear HCP hr1 hb1 hal hr2
  go_wp2_with fail
  go_ret2
  exact ⟨_, _, rfl, HF.out.1, HF.out.2⟩
section
variable {L rb : Nat} {fv lv : Value} {x : RV}
set_option maxRecDepth 100000 in
theorem rwrites_any (w : World) (h : RM L rb fv lv x w) : Calls Try.prog 52 #[.pointer (some ⟨rb, 0, none⟩)] w fun e w' => e = .returned (.int .i64 (x.log.length : Int)) ∧ w' = w := by
  have c : w.cell? ⟨rb, 2, none⟩ = some lv := h.b.cell 2
  obtain ⟨lo, lc, hl, _⟩ := own_slice' h.l
  subst hl
  clear h
  go_enter Try.func52, Try.ntmps52
  go_wp2_with fail
  go_ret
  exact ⟨rfl, rfl⟩
set_option maxRecDepth 100000 in
theorem roff_any (w : World) (h : RM L rb fv lv x w) : Calls Try.prog 48 #[.pointer (some ⟨rb, 0, none⟩)] w fun e w' => e = .returned (.tuple #[]) ∧ RM L rb fv lv { x with on := false, left := -1 } w' ∧ Chg (fun k => k = rb) w w' := by
  have c3 : w.cell? ⟨rb, 3, none⟩ = some (.bool x.on) := h.b.cell 3
  have c4 : w.cell? ⟨rb, 4, none⟩ = some (.int .i64 x.left) := h.b.cell 4
  have f3 : w.frozen? ⟨rb, 3, none⟩ = false := h.b.frozen 3
  have f4 : w.frozen? ⟨rb, 4, none⟩ = false := h.b.frozen 4
  have h1 := h.setBox (y := { x with on := false }) 3 (.bool false) rfl rfl rfl rfl
  have HD : Hid _ := h1.setBox (y := { x with on := false, left := -1 }) 4 (.int .i64 (-1)) rfl rfl rfl rfl
  clear h h1
  go_enter Try.func48, Try.ntmps48
  go_wp2_with fail
  refine bodyPost_end (results_none rfl _ _ _) rfl ?_
  exact ⟨rfl, HD.out, ((Chg.refl _ w).trans (setCell_chg _ _ _ _) (fun _ _ e => e)).trans (setCell_chg _ _ _ _) (fun _ _ e => e)⟩
set_option maxRecDepth 100000 in
theorem rstart_any (w : World) (h : RM L rb fv lv x w) : Calls Try.prog 49 #[.pointer (some ⟨rb, 0, none⟩)] w fun e w' => e = .returned (.tuple #[]) ∧ RM L rb fv lv { x with on := true } w' ∧ Chg (fun k => k = rb) w w' := by
  have c3 : w.cell? ⟨rb, 3, none⟩ = some (.bool x.on) := h.b.cell 3
  have f3 : w.frozen? ⟨rb, 3, none⟩ = false := h.b.frozen 3
  have HD : Hid _ := h.setBox (y := { x with on := true }) 3 (.bool true) rfl rfl rfl rfl
  clear h
  go_enter Try.func49, Try.ntmps49
  go_wp2_with fail
  refine bodyPost_end (results_none rfl _ _ _) rfl ?_
  exact ⟨rfl, HD.out, setCell_chg _ _ _ _⟩
set_option maxRecDepth 100000 in
theorem rarm_off (a t : Int) (w : World) (h : RM L rb fv lv x w) (ho : x.on = false) : Calls Try.prog 47 #[.pointer (some ⟨rb, 0, none⟩), .int .i64 a, .int .i64 t] w fun e w' => e = .returned (.tuple #[]) ∧ w' = w := by
  have c3 : w.cell? ⟨rb, 3, none⟩ = some (.bool x.on) := h.b.cell 3
  rw [ho] at c3
  clear h
  go_enter Try.func47, Try.ntmps47
  go_wp2_with fail
  refine bodyPost_ret (results_none rfl _ _ _) rfl ?_
  exact ⟨rfl, rfl⟩
set_option maxRecDepth 100000 in
set_option maxHeartbeats 1600000 in
theorem rarm_on (a t : Int) (w : World) (h : RM L rb fv lv x w) (ho : x.on = true) : Calls Try.prog 47 #[.pointer (some ⟨rb, 0, none⟩), .int .i64 a, .int .i64 t] w fun e w' => e = .returned (.tuple #[]) ∧ RM L rb fv lv { x with left := max a (-1), torn := tornN t } w' ∧ Chg (fun k => k = rb) w w' := by
  have c3 : w.cell? ⟨rb, 3, none⟩ = some (.bool x.on) := h.b.cell 3
  have c4 : w.cell? ⟨rb, 4, none⟩ = some (.int .i64 x.left) := h.b.cell 4
  have c5 : w.cell? ⟨rb, 5, none⟩ = some (.int .i64 (x.torn : Int)) := h.b.cell 5
  have f4 : w.frozen? ⟨rb, 4, none⟩ = false := h.b.frozen 4
  have f5 : w.frozen? ⟨rb, 5, none⟩ = false := h.b.frozen 5
  rw [ho] at c3
  have h1 := h.setBox (y := { x with left := max a (-1) }) 4 (.int .i64 (max a (-1))) rfl rfl rfl rfl
  have h2 := h1.setBox (y := { x with left := max a (-1), torn := tornN t }) 5 (.int .i64 (tornN t : Int)) rfl rfl rfl rfl
  have hc : Chg (fun k => k = rb) w ((w.setCell ⟨rb, 4, none⟩ (.int .i64 (max a (-1)))).setCell ⟨rb, 5, none⟩ (.int .i64 (tornN t : Int))) := ((Chg.refl _ w).trans (setCell_chg _ _ _ _) (fun _ _ e => e)).trans (setCell_chg _ _ _ _) (fun _ _ e => e)
  have hrun : ∀ V T : Int, V = max a (-1) → T = (tornN t : Int) → RM L rb fv lv { x with left := max a (-1), torn := tornN t } ((w.setCell ⟨rb, 4, none⟩ (.int .i64 V)).setCell ⟨rb, 5, none⟩ (.int .i64 T)) ∧ Chg (fun k => k = rb) w ((w.setCell ⟨rb, 4, none⟩ (.int .i64 V)).setCell ⟨rb, 5, none⟩ (.int .i64 T)) := by
    rintro V T rfl rfl
    exact ⟨h2, hc⟩
  have HF : Hid _ := hrun
  clear h h1 h2 hc hrun ho
  go_enter Try.func47, Try.ntmps47
  go_wp2_with fail
  all_goals
    refine bodyPost_end (results_none rfl _ _ _) rfl ?_
    refine ⟨rfl, HF.out _ _ ?_ ?_⟩
    · first | rfl | omega
    · first | rfl | (unfold tornN; omega)
end
end Go.Proofs.Ytlajcaofpmjdlaa
