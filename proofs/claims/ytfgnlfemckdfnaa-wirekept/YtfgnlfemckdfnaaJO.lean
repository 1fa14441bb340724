import Derived.Test.YtfgnlfemckdfnaaRefY1
import Derived.Test.YtfgnlfemckdfnaaRefY3
import Derived.Test.YtfgnlfemckdfnaaRefY4
import Derived.Test.YtfgnlfemckdfnaaJH
import Derived.Deep.MidRow
import Derived.Test.YtfgnlfemckdfnaaJN
import Derived.Test.YtfgnlfemckdfnaaJE
namespace Go.Proofs.Ytfgnlfemckdfnaa
open Go.RowKit Go.PlainAid
theorem rvalid_any (m : Msg) (ao : Option Addr) (cv : Nat) (w : World) (hl : m.name.length ≤ 140737488355328) (hol : m.oname.length ≤ 140737488355328) (hsrc : VFrom w ao m.views) (hsb : ∀ b o, ao = some ⟨b, o, none⟩ → 0 < m.views.length → b < w.heap.size) (hnm : ∀ x ∈ m.views, x.name.length ≤ 140737488355328) :
    Calls Try.prog 23 #[.agg (msgCells m (.slice ao m.views.length cv))] w (fun e w' => e = .returned (.bool (validB m)) ∧ Below w.heap.size w w') := by
  generalize hD : msgCells m (.slice ao m.views.length cv) = D
  have HD : Hid _ := hD
  cases hin : inB m.kind 1 10
  · exact rvalid_wrong m ao cv w D HD hl hol hsrc hsb hnm hin
  cases hal : alikeB m (shapeM m)
  · exact rvalid_shape m ao cv w D HD hl hol hsrc hsb hnm hin hal
  have hk : 1 ≤ m.kind ∧ m.kind ≤ 10 := by simpa [inB] using hin
  by_cases h1 : m.kind = 1
  · exact rvalid1 m ao cv w D HD hl hol hsrc hsb hnm h1 hin hal
  by_cases h2 : m.kind = 2
  · by_cases hq0 : m.err = 0
    · exact rvalid2a m ao cv w D HD hl hol hsrc hsb hnm h2 hq0 hin hal
    · by_cases hq1 : m.err = 101
      · exact rvalid2b m ao cv w D HD hl hol hsrc hsb hnm h2 hq0 hq1 hin hal
      · exact rvalid2c m ao cv w D HD hl hol hsrc hsb hnm h2 hq0 hq1 hin hal
  by_cases h10 : m.kind = 10
  · exact rvalid10 m ao cv w D HD hl hol hsrc hsb hnm h10 hin hal
  by_cases h7 : m.kind = 7
  · exact rvalidB m ao cv w D HD hl hol hsrc hsb hnm h7 hin hal
  by_cases h6 : m.kind ≤ 6
  · exact rvalidA m ao cv w D HD hl hol hsrc hsb hnm (by omega) h6 hin hal
  · exact rvalidC m ao cv w D HD hl hol hsrc hsb hnm (by omega) (by omega) hin hal
end Go.Proofs.Ytfgnlfemckdfnaa
namespace Go.Proofs.Ytfgnlfemckdfnaa
open Go.RowKit Go.PlainAid
theorem wr_pos {m : Msg} {bs : List UInt8} (h : message.wr m = some bs) : 0 < bs.length := by
  have h0 : message.wr m = match (num 1 10).wr m.kind with
      | none => none
      | some p => match (bodyC m.kind).wr m with
        | none => none
        | some q => some (p ++ q) := rfl
  rw [h0] at h
  cases hp : (num 1 10).wr m.kind with
  | none => rw [hp] at h; cases h
  | some p =>
    rw [hp] at h
    have hk := num_some hp
    have hp' : put m.kind.toNat = p := by
      simp only [num] at hp
      split at hp
      · exact Option.some.inj hp
      · cases hp
    have hl := (put_len m.kind.toNat (by omega)).1
    cases hq : (bodyC m.kind).wr m with
    | none => rw [hq] at h; cases h
    | some q =>
      rw [hq] at h
      cases h
      rw [List.length_append, ← hp']
      omega
end Go.Proofs.Ytfgnlfemckdfnaa
namespace Go.Proofs.Ytfgnlfemckdfnaa
set_option linter.unusedSimpArgs false
set_option linter.unusedVariables false
theorem whole_some {α : Type} {c : Codec α} (hL : Lawful c) {x : α} {bs : List UInt8} (h : c.wr x = some bs) : whole c bs = .ok (x, 0) := by
  have := hL.forth x bs h []
  rw [List.append_nil] at this
  unfold whole
  rw [this]
  simp
theorem num_le (k : Nat) {lo hi : Nat} {x : Int} {p : List UInt8} (hk : hi < 128 ^ k) (h0 : 0 < k) (h64 : hi < 2 ^ 64) (h : (num lo hi).wr x = some p) : 0 < p.length ∧ p.length ≤ k := by
  simp only [num] at h
  split at h
  · rename_i hh
    simp only [Bool.and_eq_true, decide_eq_true_eq] at hh
    cases h
    have := put_len x.toNat (by omega)
    exact ⟨this.1, this.2.2 k (by omega) h0⟩
  · cases h
theorem bind_le {α β : Type} {c : Codec α} {d : α → Codec β} {x : α} {y : β} {i j : Nat} {r : List UInt8} (h1 : ∀ p, c.wr x = some p → p.length ≤ i) (h2 : ∀ q, (d x).wr y = some q → q.length ≤ j) (h : (c.bind d).wr (x, y) = some r) : r.length ≤ i + j := by
  simp only [Codec.bind] at h
  split at h
  · cases h
  · rename_i p hp
    split at h
    · cases h
    · rename_i q hq
      cases h
      have := h1 p hp
      have := h2 q hq
      rw [List.length_append]
      omega
theorem bind_pos {α β : Type} {c : Codec α} {d : α → Codec β} {x : α} {y : β} {r : List UInt8} (h1 : ∀ p, c.wr x = some p → 0 < p.length) (h : (c.bind d).wr (x, y) = some r) : 0 < r.length := by
  simp only [Codec.bind] at h
  split at h
  · cases h
  · rename_i p hp
    split at h
    · cases h
    · rename_i q hq
      cases h
      have := h1 p hp
      rw [List.length_append]
      omega
theorem map_wr {α β : Type} {c : Codec α} {f : α → β} {g : β → α} {ok : β → Bool} {y : β} {r : List UInt8} (h : (c.map f g ok).wr y = some r) : c.wr (g y) = some r := by
  simp only [Codec.map] at h
  split at h
  · exact h
  · cases h
theorem n6 {lo : Nat} {x : Int} {p : List UInt8} (h : (num lo maxN).wr x = some p) : p.length ≤ 6 := (num_le 6 (by decide) (by decide) (by decide) h).2
theorem name17 {ab s p : List UInt8} (h : (name ab).wr s = some p) : p.length ≤ 17 := by
  rw [name_wr] at h
  cases hn : (num 1 16).wr (s.length : Int) with
  | none => rw [hn] at h; cases h
  | some q =>
    rw [hn] at h
    have h1 := num_le 1 (by decide) (by decide) (by decide) hn
    have h2 := num_some hn
    by_cases hg : good ab s = true
    · rw [if_pos hg] at h
      cases h
      rw [List.length_append]
      omega
    · rw [if_neg hg] at h; cases h
theorem view53 {ab : List UInt8} {v : View} {p : List UInt8} (h : (view ab).wr v = some p) : p.length ≤ 53 := by
  have h := map_wr h
  exact bind_le (i := 17) (j := 36) (fun p h => name17 h) (fun q h => bind_le (i := 12) (j := 24) (fun p h => bind_le (i := 6) (j := 6) (fun p h => n6 h) (fun p h => n6 h) h) (fun q h => bind_le (i := 6) (j := 18) (fun p h => n6 h) (fun q h => bind_le (i := 12) (j := 6) (fun p h => bind_le (i := 6) (j := 6) (fun p h => n6 h) (fun p h => n6 h) h) (fun p h => n6 h) h) h) h) h
theorem viewList53 : ∀ (n : Nat) (ab : List UInt8) (l : List View) (bs : List UInt8), (viewList n ab).wr l = some bs → bs.length ≤ 53 * n := by
  intro n
  induction n with
  | zero =>
    intro ab l bs h
    simp only [viewList, Codec.map, Codec.unit] at h
    split at h
    · cases h; simp
    · cases h
  | succ n ih =>
    intro ab l bs h
    simp only [viewList, Codec.map] at h
    split at h
    · cases l with
      | nil => rename_i hn; cases hn
      | cons v t =>
        have h' : (match (view ab).wr v with
          | none => none
          | some p => match (viewList n v.name).wr t with
            | none => none
            | some q => some (p ++ q)) = some bs := h
        cases hp : (view ab).wr v with
        | none => rw [hp] at h'; cases h'
        | some p =>
          rw [hp] at h'
          cases hq : (viewList n v.name).wr t with
          | none => rw [hq] at h'; cases h'
          | some q =>
            rw [hq] at h'
            cases h'
            have := view53 hp
            have := ih _ _ _ hq
            rw [List.length_append]
            omega
    · cases h
theorem views3393 {l : List View} {bs : List UInt8} (h : views.wr l = some bs) : bs.length ≤ 3393 := by
  have h' : (match (num 0 64).wr (l.length : Int) with
    | none => none
    | some p => match (viewList (l.length : Int).toNat []).wr l with
      | none => none
      | some q => some (p ++ q)) = some bs := h
  cases hp : (num 0 64).wr (l.length : Int) with
  | none => rw [hp] at h'; cases h'
  | some p =>
    rw [hp] at h'
    cases hq : (viewList (l.length : Int).toNat []).wr l with
    | none => rw [hq] at h'; cases h'
    | some q =>
      rw [hq] at h'
      cases h'
      have := num_le 1 (by decide) (by decide) (by decide) hp
      have := num_some hp
      have := viewList53 _ _ _ _ hq
      rw [List.length_append]
      omega
theorem body3393 {m : Msg} {bs : List UInt8} (h : bodyW m = some bs) : bs.length ≤ 3393 := by
  have n1 := fun (a s p : List UInt8) (h : (name a).wr s = some p) => name_len h
  unfold bodyW at h
  split at h
  · have := join_len (fun _ h => call_len h) (fun _ h => op_len h) bs h; omega
  split at h
  · split at h
    · have := join_len (fun _ h => call_len h) (join_len (fun _ h => name_len h) (join_len (fun _ h => errno_len h) (fun _ h => caps_len h))) bs h; omega
    · have := join_len (fun _ h => call_len h) (join_len (fun _ h => name_len h) (fun _ h => errno_len h)) bs h; omega
  split at h
  · have := join_len (fun _ h => name_len h) (join_len (fun _ h => caps_len h) (fun _ h => epoch_len h)) bs h; omega
  split at h
  · have := join_len (fun _ h => name_len h) (join_len (fun _ h => caps_len h) (join_len (fun _ h => epoch_len h) (join_len (fun _ h => rights_len h) (fun _ h => held_len h)))) bs h; omega
  split at h
  · have := join_len (fun _ h => name_len h) (join_len (fun _ h => caps_len h) (join_len (fun _ h => epoch_len h) (fun _ h => epoch_len h))) bs h; omega
  split at h
  · have := join_len (fun _ h => name_len h) (join_len (fun _ h => caps_len h) (fun _ h => rights_len h)) bs h; omega
  split at h
  · exact views3393 h
  · have := join_len (fun _ h => name_len h) (join_len (fun _ h => caps_len h) (join_len (fun _ h => epoch_len h) (fun _ h => rights_len h))) bs h; omega
theorem wr3400 {m : Msg} {bs : List UInt8} (h : message.wr m = some bs) : bs.length ≤ 3400 := by
  rw [enc_is] at h
  unfold encM at h
  cases hf : fieldsW m with
  | none => rw [hf] at h; cases h
  | some p =>
    rw [hf] at h
    simp only at h
    split at h
    · cases h
      have := join_len (fun _ h => (num_le 1 (by decide) (by decide) (by decide) h).2) (fun _ h => body3393 h) _ hf
      omega
    · cases h
theorem seg4020 {s : Seg} {bs : List UInt8} (h : segment.wr s = some bs) : 0 < bs.length ∧ bs.length ≤ 4020 := by
  have hr : segRight s = true := by rw [← segRight_is, h]; rfl
  have h := map_wr h
  have hd : s.data.length ≤ 4000 := by
    simp only [segRight, Bool.and_eq_true, decide_eq_true_eq] at hr
    omega
  refine ⟨bind_pos (fun p h => (num_le 1 (by decide) (by decide) (by decide) h).1) h, ?_⟩
  have := bind_le (i := 1) (j := 4015) (fun p h => (num_le 1 (by decide) (by decide) (by decide) h).2) (fun q h => bind_le (i := 1) (j := 4014) (fun p h => (num_le 1 (by decide) (by decide) (by decide) h).2) (fun q h => bind_le (i := 6) (j := 4008) (fun p h => n6 h) (fun q h => bind_le (i := 6) (j := 4002) (fun p h => n6 h) (fun q h => ?_) h) h) h) h
  · omega
  · have h := map_wr h
    refine bind_le (i := 2) (j := 4000) (fun p h => ?_) (fun q h => ?_) h
    · have hh : highOf s.seq ≤ 4000 := by unfold highOf; split <;> decide
      exact (num_le 2 (by omega) (by decide) (by omega) h).2
    · simp only [some'] at h
      split at h
      · cases h; exact hd
      · cases h
end Go.Proofs.Ytfgnlfemckdfnaa
namespace Go.Proofs.Ytfgnlfemckdfnaa.Sh
open Go.RowKit Go.PlainAid
set_option linter.unusedVariables false
set_option linter.unusedSimpArgs false
theorem load_part {ops : Array Oper} {rest : List Oper} {op : Oper} {a : Act} {w : World} {Q : Exit → Act → World → Prop} (hw : Region.wanted op (yielded ops a.tmps) = true) (ty : TypeId) (x : Operand) (ho : op.op = .load ty x)
    (b o : Nat) (hx : a.eval x = .pointer (some ⟨b, o, none⟩)) (D : Array Value) (d : TypeDesc) (hc : w.rangeAt b o D.toList) (hu : Try.prog.underlying ty = some d) (hd : d.isRow = true) (hi : (Try.prog.info? ty).map (·.size) = some D.size)
    (h : wpList Try.prog ops Q rest (a.put op.dst (.agg D)) w) : wpList Try.prog ops Q (op :: rest) a w :=
  wpList_step fun K hK => by
    rw [if_pos hw]
    refine wp_load_mid ty x ho b o hx D.toList d hc hu hd (by simpa using hi) ?_
    rw [Array.toArray_toList]
    exact hK _ _ h
structure Parts (W : World) (ab : Nat) (x : AV) : Prop where
  m : W.rangeAt ab 1 x.D.toList
  s : W.rangeAt ab 21 x.E.toList
  q : W.rangeAt ab 26 (callCells x.q).toList
  o : W.rangeAt ab 28 (opCells x.o).toList
  r : W.rangeAt ab 32 (repCells x.r).toList
theorem Blk.parts {W : World} {ab : Nat} {x : AV} (h : Blk W ab x.cells.toArray 114) : Parts W ab x := by
  have hc : ∀ j, W.cell? ⟨ab, j, none⟩ = x.cells[j]? := fun j => by rw [h.cell j]; simp
  have hp : ∀ (P Q R : List Value) (i : Nat), x.cells = P ++ Q ++ R → P.length = i → W.rangeAt ab i Q := fun P Q R i e hi j v hv => by
    rw [hc, e, List.append_assoc, List.getElem?_append_right (by omega), hi, Nat.add_sub_cancel_left, List.getElem?_append_left (List.getElem?_eq_some_iff.1 hv).1]
    exact hv
  refine ⟨hp [.int .i64 x.kind] _ (x.E.toList ++ (callCells x.q).toList ++ (opCells x.o).toList ++ (repCells x.r).toList ++ [x.b]) 1 ?_ rfl, hp ([.int .i64 x.kind] ++ x.D.toList) _ ((callCells x.q).toList ++ (opCells x.o).toList ++ (repCells x.r).toList ++ [x.b]) 21 ?_ rfl, hp ([.int .i64 x.kind] ++ x.D.toList ++ x.E.toList) _ ((opCells x.o).toList ++ (repCells x.r).toList ++ [x.b]) 26 ?_ rfl, hp ([.int .i64 x.kind] ++ x.D.toList ++ x.E.toList ++ (callCells x.q).toList) _ ((repCells x.r).toList ++ [x.b]) 28 ?_ rfl, hp ([.int .i64 x.kind] ++ x.D.toList ++ x.E.toList ++ (callCells x.q).toList ++ (opCells x.o).toList) _ [x.b] 32 rfl rfl⟩ <;> simp [AV.cells, List.append_assoc]
theorem vrow_own {w : World} {base : Nat} {ao : Option Addr} {c : Nat} {l : List View} (h : VRow w base ao c l) (hl : l.length ≤ 64) : w.ownsRow base 112 7 (.slice ao l.length c) l.length (cellsOf l) := by
  refine ⟨cellsOf_len l, ?_⟩
  rcases h with ⟨rfl, rfl, rfl⟩ | ⟨vb, rfl, h1, rfl, h2, h3⟩
  · exact Or.inl ⟨rfl, rfl⟩
  · refine Or.inr ⟨vb, l.length, (cellsOf l).toArray, rfl, h1, h3, Nat.le_refl _, by unfold maxLen; omega, by simp [cellsOf_len], ?_⟩
    simp [← cellsOf_len]
theorem enc_any {r : Option (List UInt8)} {w : World} {e : Ending} {w' : World} (h : EncPost r w e w') (hr : ∀ bs, r = some bs → bs.length ≤ 1000000) : Below w.heap.size w w' ∧ ∃ (v : Value) (er : Int) (bs : List UInt8), e = .returned (.tuple #[v, .int .i64 er]) ∧ w'.ownsRow w.heap.size 5 1 v bs.length (bs.map B) ∧ bs.length ≤ 1000000 := by
  obtain ⟨hb, h2⟩ := h
  refine ⟨hb, ?_⟩
  cases r with
  | none => exact ⟨_, _, [], h2, World.ownsRow_nil _ _ _ _, by simp⟩
  | some bs =>
    obtain ⟨v, h3, h4⟩ := h2
    exact ⟨v, 0, bs, h3, h4, hr bs rfl⟩
theorem req_len {q : Int × Int} {o : Int × List UInt8 × Int × Int} {bs : List UInt8} (h : request.wr (q, o) = some bs) : bs.length ≤ 1000000 := by
  have := bind_le (i := 20) (j := 56) (fun p h => call_len h) (fun q h => op_len h) (show (call.bind fun _ => op).wr (q, o) = some bs from h)
  omega
theorem rep_len {r : (Int × Int) × Int × Int} {bs : List UInt8} (h : reply.wr r = some bs) : bs.length ≤ 1000000 := by
  have := bind_le (i := 20) (j := 20) (fun p h => call_len h) (fun q h => bind_le (i := 10) (j := 10) (fun p h => errno_len h) (fun p h => signed_len h) (show (errno.bind fun _ => signed).wr r.2 = some q from h)) (show (call.bind fun _ => (errno.bind fun _ => signed)).wr (r.1, r.2) = some bs from h)
  omega
theorem box_new (w : World) (Z D : Array Value) (ty : TypeId) : Blk ((w.alloc (.cells Z ty)).setRow w.heap.size D) w.heap.size D ty ∧ Below w.heap.size w ((w.alloc (.cells Z ty)).setRow w.heap.size D) ∧ ((w.alloc (.cells Z ty)).setRow w.heap.size D).heap.size = w.heap.size + 1 :=
  ⟨setRow_blk (heap_alloc_new w _), (show Below w.heap.size w (w.alloc _) from by go_grown).trans ⟨rfl, rfl, rfl, by simp [World.setRow], fun k hk => setRow_other _ _ _ _ (by omega)⟩, by simp [World.setRow]⟩
theorem wp_seq_rest {P : Program} {c1 c2 : Code} {Q : Exit → Act → World → Prop} {a : Act} {w : World} (S : Act → World → Prop) (h1 : ∀ a w, S a w → c2.wp P Q a w) (h2 : ∀ K : Act → World → Prop, (∀ a w, S a w → K a w) → c1.wp P (Exit.then K Q) a w) : (c1.seq c2).wp P Q a w := wp_seq (h2 _ h1)
end Go.Proofs.Ytfgnlfemckdfnaa.Sh
namespace Go.Proofs.Ytfgnlfemckdfnaa.Sh
open Go.RowKit Go.PlainAid
set_option linter.unusedVariables false
set_option linter.unusedSimpArgs false
section
variable {σ : Type} {kb : Nat} {w : World} {K : Keeper σ w.heap.size kb} {s : σ} {c : Nat} {X : List (Value × World)} {W V V2 : World} {x : AV}
theorem LV.size (h : LV K s c X W) : w.heap.size ≤ W.heap.size := h.bel.size
theorem c_valid (h : LV K s c X W) (ho : AOk w x) : Calls Try.prog 23 #[.agg x.D] W fun e W' => e = .returned (.bool (validB x.m)) ∧ LV K s c X W' := by
  have o := ho.up h.bel
  exact (rvalid_any x.m x.ao x.cv W o.hl o.hol o.src o.sb o.nm).mono fun e W' ⟨h1, h2⟩ => ⟨h1, h.up h2⟩
theorem enc_own {w1 w2 : World} {e : Ending} {bs : List UInt8} (h : EncPost (some bs) w1 e w2) (hp : 0 < bs.length) : Below w1.heap.size w1 w2 ∧ ∃ g c, e = .returned (.tuple #[.slice (some ⟨g, 0, none⟩) bs.length c, .int .i64 0]) ∧ bs.length ≤ c ∧ w2.ownsRow w1.heap.size 5 1 (.slice (some ⟨g, 0, none⟩) bs.length c) bs.length (bs.map B) := by
  obtain ⟨hb, v, rfl, ho⟩ := h
  obtain ⟨ao, cap, rfl, hc⟩ := own_slice ho
  obtain ⟨g, rfl⟩ := row_ptr ho hp
  exact ⟨hb, g, cap, rfl, hc, ho⟩
theorem c_enc {bs : List UInt8} (h : LV K s c X W) (ho : AOk w x) (hbs : message.wr x.m = some bs) : Calls Try.prog 14 #[.agg x.D] W fun e W' => ∃ g c', e = .returned (.tuple #[.slice (some ⟨g, 0, none⟩) bs.length c', .int .i64 0]) ∧ bs.length ≤ c' ∧ W'.ownsRow w.heap.size 5 1 (.slice (some ⟨g, 0, none⟩) bs.length c') bs.length (bs.map B) ∧ LV K s c ((.slice (some ⟨g, 0, none⟩) bs.length c', W') :: X) W' := by
  have o := ho.up h.bel
  obtain ⟨hfit, hv64⟩ := fit_of hbs
  have hen := encode_any x.m x.ao x.cv W hfit o.src o.sb
  rw [← enc_is, hbs] at hen
  refine hen.mono fun e W' hp => ?_
  obtain ⟨hb, g, c', h1, h2, h3⟩ := enc_own hp (wr_pos hbs)
  exact ⟨g, c', h1, h2, ownsRow_mono h3 h.size, h.new hb _ (fun k e => ownsRow_lt h3 e)⟩
theorem c_alike {v1 v2 : Value} {bs : List UInt8} {n : Nat} (h : LV K s c X W) (m1 : (v1, V) ∈ X) (r1 : V.ownsRow w.heap.size 5 1 v1 n (bs.map B)) (m2 : (v2, V2) ∈ X) (r2 : V2.ownsRow w.heap.size 5 1 v2 n (bs.map B)) : Calls Try.prog 15 #[v1, v2] W fun e W' => e = .returned (.bool true) ∧ W' = W := by
  have q1 := h.row m1 r1
  have q2 := h.row m2 r2
  obtain ⟨a1, c1, rfl, _⟩ := own_slice q1
  obtain ⟨a2, c2, rfl, _⟩ := own_slice q2
  have hn : bs.length = n := by simpa using q1.1
  have := alike_any a1 a2 n n c1 c2 bs bs W hn hn (ownB_from q1) (ownB_from q2)
  simpa using this
theorem c_dec {g c' : Nat} {bs : List UInt8} (h : LV K s c X W) (hbs : message.wr x.m = some bs) (hc : bs.length ≤ c') (m1 : (.slice (some ⟨g, 0, none⟩) bs.length c', V) ∈ X) (r1 : V.ownsRow w.heap.size 5 1 (.slice (some ⟨g, 0, none⟩) bs.length c') bs.length (bs.map B)) :
    Calls Try.prog 10 #[.slice (some ⟨g, 0, none⟩) bs.length c'] W fun e W' => ∃ ao c2, e = .returned (.tuple #[.agg (msgCells x.m (.slice ao x.m.views.length c2)), .int .i64 0, .int .i64 0]) ∧ W'.ownsRow w.heap.size 112 7 (.slice ao x.m.views.length c2) x.m.views.length (cellsOf x.m.views) ∧ x.m.views.length ≤ 64 ∧ LV K s c ((.slice ao x.m.views.length c2, W') :: X) W' := by
  obtain ⟨hfit, hv64⟩ := fit_of hbs
  have h3400 := wr3400 hbs
  have hd := decode_any g 0 bs.length c' bs W rfl (ownB_from (h.row m1 r1)) (h.liv _ m1 g rfl).1 (by omega) hc
  rw [whole_some law_message hbs] at hd
  refine hd.mono ?_
  rintro e W' ⟨hb, ao, c2, rfl, hr⟩
  have hr2 := vrow_own hr hv64
  exact ⟨ao, c2, rfl, ownsRow_mono hr2 h.size, hv64, h.new hb _ (fun k e => ownsRow_lt hr2 e)⟩
theorem c_box (h : LV K s c X W) (Z D : Array Value) (ty : TypeId) : LV K s c ((.slice (some ⟨W.heap.size, 0, none⟩) 0 0, (W.alloc (.cells Z ty)).setRow W.heap.size D) :: X) ((W.alloc (.cells Z ty)).setRow W.heap.size D) ∧ Blk ((W.alloc (.cells Z ty)).setRow W.heap.size D) W.heap.size D ty := by
  obtain ⟨h1, h2, h3⟩ := box_new W Z D ty
  exact ⟨h.new h2 _ (fun g e => by have e2 : g = W.heap.size := (Option.some.inj e).symm; rw [e2]; exact ⟨Nat.le_refl _, by rw [h3]; omega⟩), h1⟩
theorem c_same {ao : Option Addr} {c2 : Nat} (h : LV K s c X W) (ho : AOk w x) (h64 : x.m.views.length ≤ 64) (m1 : (.slice ao x.m.views.length c2, V) ∈ X) (r1 : V.ownsRow w.heap.size 112 7 (.slice ao x.m.views.length c2) x.m.views.length (cellsOf x.m.views)) :
    Calls Try.prog 13 #[.agg (msgCells x.m (.slice ao x.m.views.length c2)), .agg x.D] W fun e W' => e = .returned (.bool true) ∧ LV K s c X W' := by
  have o := ho.up h.bel
  have q := h.row m1 r1
  have hs := same_any x.m x.m ao x.ao c2 x.cv W (ownV_from q) o.src (fun b o e _ => (ownsRow_lt q (by rw [e]; rfl)).2) o.sb (by omega)
  rw [(sameB_iff x.m x.m).2 rfl] at hs
  exact hs.mono fun e W' ⟨h1, h2⟩ => ⟨h1, h.up h2⟩
theorem c_right (h : LV K s c X W) : Calls Try.prog 64 #[.agg x.E] W fun e W' => e = .returned (.bool (segRight x.s)) ∧ LV K s c X W' :=
  (rright_any x.s x.so x.sc W).mono fun e W' ⟨h1, h2⟩ => ⟨h1, h.up h2⟩
theorem seg_data {s : Seg} {bs : List UInt8} (h : segment.wr s = some bs) : s.data.length ≤ 4000 := by
  have hr : segRight s = true := by rw [← segRight_is, h]; rfl
  simp only [segRight, Bool.and_eq_true, decide_eq_true_eq] at hr
  omega
theorem c_encS {bs : List UInt8} (h : LV K s c X W) (ho : AOk w x) (hbs : segment.wr x.s = some bs) : Calls Try.prog 18 #[.agg x.E] W fun e W' => ∃ g c', e = .returned (.tuple #[.slice (some ⟨g, 0, none⟩) bs.length c', .int .i64 0]) ∧ bs.length ≤ c' ∧ W'.ownsRow w.heap.size 5 1 (.slice (some ⟨g, 0, none⟩) bs.length c') bs.length (bs.map B) ∧ LV K s c ((.slice (some ⟨g, 0, none⟩) bs.length c', W') :: X) W' := by
  have o := ho.up h.bel
  have hd := seg_data hbs
  have hen := encodeSeg_any x.s x.so x.sc W o.nil o.frm o.sd (by omega)
  rw [hbs] at hen
  refine hen.mono fun e W' hp => ?_
  obtain ⟨hb, g, c', h1, h2, h3⟩ := enc_own hp (seg4020 hbs).1
  exact ⟨g, c', h1, h2, ownsRow_mono h3 h.size, h.new hb _ (fun k e => ownsRow_lt h3 e)⟩
theorem c_decS {g c' : Nat} {bs : List UInt8} (h : LV K s c X W) (hbs : segment.wr x.s = some bs) (hc : bs.length ≤ c') (m1 : (.slice (some ⟨g, 0, none⟩) bs.length c', V) ∈ X) (r1 : V.ownsRow w.heap.size 5 1 (.slice (some ⟨g, 0, none⟩) bs.length c') bs.length (bs.map B)) :
    Calls Try.prog 16 #[.slice (some ⟨g, 0, none⟩) bs.length c'] W fun e W' => ∃ ao c2, e = .returned (.tuple #[.agg (segCells x.s.src x.s.dst x.s.seq x.s.ack (.slice ao x.s.data.length c2)), .int .i64 0, .int .i64 0]) ∧ W'.ownsRow w.heap.size 5 1 (.slice ao x.s.data.length c2) x.s.data.length (x.s.data.map B) ∧ LV K s c ((.slice ao x.s.data.length c2, W') :: X) W' := by
  have h4 := (seg4020 hbs).2
  have hd := decodeSeg_any g 0 bs.length c' bs W rfl (ownB_from (h.row m1 r1)) (h.liv _ m1 g rfl).1 (by omega) hc
  rw [whole_some law_segment hbs] at hd
  refine hd.mono ?_
  rintro e W' ⟨hb, ao, c2, rfl, hr⟩
  exact ⟨ao, c2, rfl, ownsRow_mono hr h.size, h.new hb _ (fun k e => ownsRow_lt hr e)⟩
theorem c_sameS {ao : Option Addr} {c2 : Nat} (h : LV K s c X W) (ho : AOk w x) (m1 : (.slice ao x.s.data.length c2, V) ∈ X) (r1 : V.ownsRow w.heap.size 5 1 (.slice ao x.s.data.length c2) x.s.data.length (x.s.data.map B)) :
    Calls Try.prog 17 #[.agg (segCells x.s.src x.s.dst x.s.seq x.s.ack (.slice ao x.s.data.length c2)), .agg x.E] W fun e W' => e = .returned (.bool true) ∧ LV K s c X W' := by
  have o := ho.up h.bel
  have q := h.row m1 r1
  have hs := sameSeg_any x.s x.s ao x.so c2 x.sc W (ownB_from q) o.frm (fun b o e _ => (ownsRow_lt q (by rw [e]; rfl)).2) o.sd
  rw [(segB_iff x.s x.s).2 rfl] at hs
  exact hs.mono fun e W' ⟨h1, h2⟩ => ⟨h1, h.up h2⟩
theorem c_any {r : Option (List UInt8)} {e : Ending} {W' : World} (h : LV K s c X W) (hr : ∀ bs, r = some bs → bs.length ≤ 1000000) (hp : EncPost r W e W') : ∃ (v : Value) (er : Int) (bs : List UInt8), e = .returned (.tuple #[v, .int .i64 er]) ∧ W'.ownsRow w.heap.size 5 1 v bs.length (bs.map B) ∧ bs.length ≤ 1000000 ∧ LV K s c ((v, W') :: X) W' := by
  obtain ⟨hb, v, er, bs, h1, h2, h3⟩ := enc_any hp hr
  exact ⟨v, er, bs, h1, ownsRow_mono h2 h.size, h3, h.new hb _ (fun k e => ownsRow_lt h2 e)⟩
theorem c_req (h : LV K s c X W) (ho : AOk w x) : Calls Try.prog 20 #[.agg (callCells x.q), .agg (opCells x.o)] W fun e W' => ∃ (v : Value) (er : Int) (bs : List UInt8), e = .returned (.tuple #[v, .int .i64 er]) ∧ W'.ownsRow w.heap.size 5 1 v bs.length (bs.map B) ∧ bs.length ≤ 1000000 ∧ LV K s c ((v, W') :: X) W' :=
  (encodeReq_any x.q x.o W ho.hn ho.x1 ho.x2 ho.y1 ho.y2).mono fun e W' hp => c_any h (fun bs hb => req_len hb) hp
theorem c_rep (h : LV K s c X W) (ho : AOk w x) : Calls Try.prog 22 #[.agg (repCells x.r)] W fun e W' => ∃ (v : Value) (er : Int) (bs : List UInt8), e = .returned (.tuple #[v, .int .i64 er]) ∧ W'.ownsRow w.heap.size 5 1 v bs.length (bs.map B) ∧ bs.length ≤ 1000000 ∧ LV K s c ((v, W') :: X) W' :=
  (encodeRep_any x.r W ho.z1 ho.z2).mono fun e W' hp => c_any h (fun bs hb => rep_len hb) hp
end
end Go.Proofs.Ytfgnlfemckdfnaa.Sh
