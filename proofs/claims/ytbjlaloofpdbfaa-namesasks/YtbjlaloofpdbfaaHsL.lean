import Derived.Test.YtbjlaloofpdbfaaArgs
import Derived.Test.YtbjlaloofpdbfaaHs
import Derived.Test.YtbjlaloofpdbfaaJoinB
import Derived.Laws.OwnMore
import Derived.RangeFuncBox
import Derived.Deep.Cut
namespace Go.Proofs.Ytbjlaloofpdbfaa
open Go.RowKit Go.PlainAid Go.MapKept
set_option linter.unusedVariables false
set_option linter.unusedSimpArgs false
theorem bfrom_of {w : World} {ao : Option Addr} {bs : List UInt8} {n : Nat} (hl : bs.length = n) (hat : 0 < n → ∃ b off, ao = some ⟨b, off, none⟩ ∧ ∀ i o, bs[i]? = some o → RowAt w b (off + i * 1) [B8 o]) : BFrom w ao bs := by
  intro h0
  obtain ⟨b, off, e, hc⟩ := hat (by omega)
  refine ⟨b, off, e, fun j u hu => ?_⟩
  have := hc j u hu 0 (B8 u) rfl
  rwa [Nat.mul_one, Nat.add_zero] at this
theorem BFrom.more {w w' : World} {ao : Option Addr} {bs : List UInt8} (h : BFrom w ao bs) (hb : Below w.heap.size w w') : BFrom w' ao bs := by
  intro h0
  obtain ⟨b, off, e, hc⟩ := h h0
  exact ⟨b, off, e, fun j u hu => (hb.cell (p := ⟨b, off + j, none⟩) (World.block_lt_of_cell? w _ (hc j u hu))).trans (hc j u hu)⟩
theorem B8_one (bs : List UInt8) : ∀ u ∈ bs.map B8, u.oneCell' = true := by
  intro u hu
  obtain ⟨z, _, rfl⟩ := List.mem_map.1 hu
  rfl
/-- An append onto a row of one's own, from any bytes. -/
theorem app_bytes {w : World} {base k : Nat} {v : Value} {xs : List UInt8} (hown : w.ownsRow base 5 1 v k (xs.map B8)) {ao : Option Addr} {n cap : Nat} {ps : List UInt8} (hn : ps.length = n) (hnil : ao = none → n = 0 ∧ cap = 0) (hsrc : BFrom w ao ps) (hlen : k + n ≤ 140737488355328) (hbase : base ≤ w.heap.size) :
    ∃ v' w', (∀ ty, (Builtin.append_ #[22, 22] ty #[v, .slice ao n cap]).run Try.prog w = .ok v' w') ∧ w'.ownsRow base 5 1 v' (k + n) ((xs ++ ps).map B8) ∧ Grew w w' v v' := by
  cases ao with
  | none =>
    obtain ⟨rfl, rfl⟩ := hnil rfl
    obtain ⟨i0, hi, _⟩ := info_parts info5
    obtain rfl := List.eq_nil_of_length_eq_zero hn
    exact ⟨v, w, fun ty => run_append_owned_none w base 22 ty 5 i0 1 Try.underlying22 hi v k _ hown, by simpa using hown, Grew.refl _ _⟩
  | some ad =>
    have key : ∀ ty, ∃ v' w', (Builtin.append_ #[22, 22] ty #[v, .slice (some ad) n cap]).run Try.prog w = .ok v' w' ∧ w'.ownsRow base 5 1 v' (k + n) (xs.map B8 ++ ps.map B8) ∧ Grew w w' v v' := fun ty => by
      obtain ⟨v', w', a, b, c, _⟩ := app_any 22 5 (.int .u8 0) 1 1 Try.underlying22 info5 rfl (by decide) (by decide) hown ad n cap (ps.map B8) (by simp [hn]) (fun j u hu => by
        rw [List.getElem?_map] at hu
        cases hx : ps[j]? with
        | none => rw [hx] at hu; cases hu
        | some y =>
          rw [hx] at hu
          cases hu
          have hj := (List.getElem?_eq_some_iff.1 hx).1
          obtain ⟨b, off, e, hc⟩ := hsrc (by omega)
          cases e
          rw [addr_add]
          exact hc j y hx) (B8_one ps) (by omega) hbase ty
      exact ⟨v', w', a, b, c⟩
    obtain ⟨v', w', a, b, c⟩ := key 22
    exact ⟨v', w', fun ty => a, by rw [List.map_append]; exact b, c⟩
theorem own_b {w : World} {base n g cap : Nat} {bs rest : List UInt8} (h : w.ownsRow base 5 1 (.slice (some ⟨g, 0, none⟩) (n + 1) cap) (n + 1) ((bs ++ rest).map B8)) : BFrom w (some ⟨g, 0, none⟩) bs := fun h0 =>
  ⟨g, 0, rfl, fun j u hu => by
    have := h.cells (g := g) rfl j (B8 u) (by
      rw [List.getElem?_map, List.getElem?_append_left (List.getElem?_eq_some_iff.1 hu).1, hu]; rfl)
    rwa [addr_add] at this⟩
theorem conv_run (w : World) (ao : Option Addr) (n cap : Nat) (xs : List UInt8) (hn : xs.length = n) (hs : BFrom w ao xs) : (convert 22 9 (.slice ao n cap)).run Try.prog w = .ok (.string ⟨xs.toArray⟩) w := by
  subst hn
  cases ao with
  | none =>
    have h0 : xs = [] := by
      cases xs with
      | nil => rfl
      | cons x xs => obtain ⟨_, _, h, _⟩ := hs (by simp); cases h
    subst h0
    rw [run_convert_bytes_string w 22 9 5 none _ cap Try.underlying22 Try.underlying5 Try.underlying9]
    simp [Conv.bytesToString]
    rfl
  | some ad =>
    refine run_convert_bytes_back w 22 9 5 ad cap xs Try.underlying22 Try.underlying5 Try.underlying9 (fun j hj => ?_)
    obtain ⟨b, off, h, hc⟩ := hs (by omega)
    cases h
    rw [addr_add]
    exact hc j _ (List.getElem?_eq_getElem hj)
theorem bits_xor_u8 (a b : Nat) (ha : a < 2 ^ 8) (hb : b < 2 ^ 8) : bits BinOp.xor IntKind.u8 (a : Int) (b : Int) = ((a ^^^ b : Nat) : Int) := by
  have hx : a ^^^ b < 2 ^ 8 := Nat.xor_lt_two_pow ha hb
  have ha' : a % 2 ^ IntKind.u8.bits = a := Nat.mod_eq_of_lt ha
  have hb' : b % 2 ^ IntKind.u8.bits = b := Nat.mod_eq_of_lt hb
  simp only [bits, BitVec.ofInt_natCast, BitVec.toNat_xor, BitVec.toNat_ofNat, ha', hb']
  generalize a ^^^ b = c at *
  simp only [IntKind.wrap, IntKind.bits, IntKind.signed]
  simp
  omega
def flip1 (u : UInt8) : UInt8 := u ^^^ 1
theorem flip1_bits (u : UInt8) : bits BinOp.xor IntKind.u8 (u.toNat : Int) 1 = ((flip1 u).toNat : Int) := by
  have := bits_xor_u8 u.toNat 1 u.toNat_lt (by decide)
  simpa [flip1] using this
def turned (bs : List UInt8) (k : Nat) : List UInt8 := (bs.take k).map flip1 ++ bs.drop k
theorem turned_set {bs : List UInt8} {k : Nat} {u : UInt8} (h : bs[k]? = some u) (rest : List UInt8) : ((turned bs k ++ rest).map B8).set k (B8 (flip1 u)) = (turned bs (k + 1) ++ rest).map B8 := by
  have hk := (List.getElem?_eq_some_iff.1 h).1
  rw [← List.map_set]
  congr 1
  rw [List.set_append_left _ _ (by simp [turned]; omega)]
  congr 1
  apply List.ext_getElem?
  intro j
  unfold turned
  rw [List.getElem?_set]
  simp only [List.length_append, List.length_map, List.length_take, List.length_drop]
  by_cases hjk : k = j
  · subst hjk
    rw [if_pos rfl, if_pos (by omega), List.getElem?_append_left (by simp; omega), List.getElem?_map, List.getElem?_take, if_pos (by omega), h]
    rfl
  · rw [if_neg hjk]
    by_cases hlt : j < k
    · rw [List.getElem?_append_left (by simp; omega), List.getElem?_append_left (by simp; omega)]
      simp [List.getElem?_take, hlt, show j < k + 1 by omega]
    · rw [List.getElem?_append_right (by simp; omega), List.getElem?_append_right (by simp; omega)]
      simp only [List.length_map, List.length_take, List.getElem?_drop]
      congr 1
      omega
theorem turned_at {bs : List UInt8} {k : Nat} (rest : List UInt8) (hk : k < bs.length) : ((turned bs k ++ rest).map B8)[k]? = some (B8 bs[k]) := by
  unfold turned
  rw [List.getElem?_map, List.getElem?_append_left (by simp; omega), List.getElem?_append_right (by simp; omega)]
  rw [List.length_map, List.length_take, Nat.min_eq_left (Nat.le_of_lt hk), Nat.sub_self, List.getElem?_drop, Nat.add_zero, List.getElem?_eq_getElem hk]
  rfl
theorem turned_len (bs : List UInt8) (k : Nat) : (turned bs k).length = bs.length := by
  unfold turned
  simp
  omega
/-- A builtin's run that is known. -/
theorem wpList_runs {ops : Array Oper} {rest : List Oper} {o : Oper} {a : Act} {Q : Exit → Act → World → Prop} {w w' : World} (hgd : o.guard = none) (s x : Operand) (t : TypeId) (ho : o.op = .call { callee := .builtin .append, args := #[s, x], argTypes := #[t, t] }) {v y v' : Value} (hs : a.eval s = v) (hx : a.eval x = y)
    (hr : ∀ ty, (Builtin.append_ #[t, t] ty #[v, y]).run Try.prog w = .ok v' w') (h : wpList Try.prog ops Q rest (a.put o.dst v') w') : wpList Try.prog ops Q (o :: rest) a w := by
  refine wpList_plain hgd fun K hK => ?_
  unfold Oper.wp execOp
  simp only [ho, resolve, invoke, builtin, Sem.run_bind, Sem.run_pure, Result.andThen_ok, List.map_toArray, List.map_cons, List.map_nil, hs, hx, hr]
  exact hK _ _ h
structure HL (base : Nat) (g c9 n : Nat) (bs : List UInt8) (w1 wr : World) (k : Nat) : Prop where
  row : wr.ownsRow base 5 1 (.slice (some ⟨g, 0, none⟩) (n + 1) c9) (n + 1) ((turned bs k ++ [167]).map B8)
  bel : Below base w1 wr
set_option maxRecDepth 100000 in
set_option maxHeartbeats 6400000 in
theorem hash_law (HAL : ∀ w, Calls Try.prog 9 #[] w fun e w' => e = .returned (.bool true) ∧ Below w.heap.size w w') (bs nm : List UInt8) (r : Int) (ao : Option Addr) (n cap : Nat) (w : World) (hl : bs.length = n) (hnl : ao = none → n = 0 ∧ cap = 0)
    (hat : 0 < n → ∃ b off, ao = some ⟨b, off, none⟩ ∧ ∀ i o, bs[i]? = some o → RowAt w b (off + i * 1) [B8 o]) (hcap : n ≤ cap) (hcm : cap ≤ maxLen) (hnm : nm.length ≤ 140737488355328) (hr : -9223372036854775808 ≤ r ∧ r ≤ 9223372036854775807) :
    Calls Try.prog 3 #[.slice ao n cap, .string ⟨nm.toArray⟩, .int .i64 r] w fun e w' => e = .returned (.bool true) ∧ Below w.heap.size w w' := by
  unfold maxLen at hcm
  have hF := bfrom_of hl hat
  clear hat
  by_cases h1 : 65536 < n
  · go_enter Try.func3, Try.ntmps3
    go_wp2_with fail
    go_ret
    exact ⟨rfl, Below.refl _ _⟩
  by_cases h2 : 65536 < nm.length
  · go_enter Try.func3, Try.ntmps3
    go_wp2_with fail
    go_ret
    exact ⟨rfl, Below.refl _ _⟩
  have HF : Hid _ := hF
  have HNL : Hid (ao = none → n = 0 ∧ cap = 0) := hnl
  have HL0 : Hid (bs.length = n) := hl
  clear hF hnl hl
  go_enter Try.func3, Try.ntmps3
  go_wp2_with fail
  refine Calls.mono (HAL w) ?_
  rintro e w1 ⟨rfl, hb1⟩
  have HF1 : Hid _ := BFrom.more HF.out hb1
  obtain ⟨v8, w2, hr2, ho2, hg2⟩ := app_bytes (w := w1) (xs := []) (World.ownsRow_nil w1 w1.heap.size 5 1) (ao := ao) (cap := cap) HL0.out HNL.out HF1.out (by omega) (Nat.le_refl _)
  rw [Nat.zero_add, List.nil_append] at ho2
  have hb2 : Below w1.heap.size w1 w2 := hg2.below (fun j hj => by cases hj) (Nat.le_refl _)
  obtain ⟨ao8, cap8, hv8, hc8⟩ := own_slice ho2
  subst hv8
  have hbA : Below w1.heap.size w1 (w2.alloc (.cells #[.int .u8 167] 5)) := hb2.alloc hb2.size _
  obtain ⟨v9, w3, hr3, ho3, hg3⟩ := app_bytes (w := w2.alloc (.cells #[.int .u8 167] 5)) (World.ownsRow.alloc ho2 _) (ao := some ⟨w2.heap.size, 0, none⟩) (n := 1) (cap := 1) (ps := [167]) rfl (fun h => by cases h) (fun _ => ⟨w2.heap.size, 0, rfl, fun j u hu => by
    have hB : Blk (w2.alloc (.cells #[.int .u8 167] 5)) w2.heap.size #[.int .u8 167] 5 := heap_alloc_new w2 _
    rw [Nat.zero_add, hB.cell j]
    match j, hu with
    | 0, hu => cases hu; rfl
    | j + 1, hu => simp at hu⟩) (by omega) (by rw [World.size_alloc]; exact Nat.le_succ_of_le hb2.size)
  have hb3 : Below w1.heap.size w1 w3 := hbA.trans (hg3.below (fun j hj => (ho2.lt j hj).1) hbA.size)
  obtain ⟨g, c9, hv9⟩ := ownsRow_succ ho3
  subst hv9
  have hnc9 : n + 1 ≤ c9 := by obtain ⟨_, _, e, h⟩ := own_slice ho3; cases e; exact h
  have hc9 : c9 ≤ maxLen := by obtain ⟨_, _, e, _, h, _⟩ := own_read ho3; cases e; exact h
  unfold maxLen at hc9
  have HB1 : Hid _ := hb1
  have HO3 : Hid (World.ownsRow w3 w1.heap.size 5 1 (.slice (some ⟨g, 0, none⟩) (n + 1) c9) (n + 1) ((bs ++ [167]).map B8)) := ho3
  have HB3 : Hid _ := hb3
  have HR2 : Hid (∀ ty, (Builtin.append_ #[22, 22] ty #[.slice none 0 0, .slice ao n cap]).run Try.prog w1 = .ok (.slice ao8 n cap8) w2) := hr2
  have HR3 : Hid (∀ ty, (Builtin.append_ #[22, 22] ty #[.slice ao8 n cap8, .slice (some ⟨w2.heap.size, 0, none⟩) 1 1]).run Try.prog (w2.alloc (.cells #[.int .u8 167] 5)) = .ok (.slice (some ⟨g, 0, none⟩) (n + 1) c9) w3) := hr3
  clear hb1 ho2 hg2 hb2 hbA ho3 hg3 hb3 hc8 hr2 hr3
  go_upto_region 5 with (at_builtin; go_must (refine wpList_runs rfl _ _ 22 rfl rfl rfl HR2.out ?_))
  go_wp2_with (at_builtin; refine wpList_runs rfl _ _ 22 rfl rfl rfl HR3.out ?_)
  clear HR2 HR3
  have hF3 : BFrom w3 (some ⟨g, 0, none⟩) bs := own_b HO3.out
  have HF3 : Hid _ := hF3
  have HFA : Hid (BFrom w3 ao bs) := BFrom.more HF1.out HB3.out
  clear hF3
  refine Calls.mono (hash_any (some ⟨g, 0, none⟩) n c9 bs w3 HL0.out (by omega) HF3.out) ?_
  rintro e w4 ⟨rfl, hw4⟩
  replace hw4 := hw4.symm
  subst hw4
  obtain ⟨H, hH⟩ : ∃ H, H = hashN bs := ⟨_, rfl⟩
  have hHlt : H < 4294967296 := by rw [hH]; exact hashN_lt bs
  rw [← hH]
  have HRH : Hid (∀ q, Calls Try.prog 11 #[.slice ao n cap] (w3.drewN q) fun e w' => e = .returned (.int .i64 (H : Nat)) ∧ w' = w3.drewN q) := fun q => by
    rw [hH]
    exact rhash_any ao n cap bs (w3.drewN q) HL0.out (by omega) HFA.out
  clear hH
  have hcv1 : ∀ q, (convert 22 9 (.slice (some ⟨g, 0, none⟩) n c9)).run Try.prog (w3.drewN q) = .ok (.string ⟨bs.toArray⟩) (w3.drewN q) := fun q => conv_run (w3.drewN q) _ n c9 bs HL0.out HF3.out
  have hcv2 : ∀ q, (convert 22 9 (.slice ao n cap)).run Try.prog (w3.drewN q) = .ok (.string ⟨bs.toArray⟩) (w3.drewN q) := fun q => conv_run (w3.drewN q) _ n cap bs HL0.out HFA.out
  have hcl : w3.cell? ⟨g, n, none⟩ = some (.int .u8 167) := by
    have := World.ownsRow.cellAt HO3.out n (by omega)
    rw [this, List.getElem?_map, List.getElem?_append_right (by have := HL0.out; omega), show n - bs.length = 0 from by have := HL0.out; omega]
    rfl
  have hcl2 : ∀ q, (w3.drewN q).cell? ⟨g, n, none⟩ = some (.int .u8 167) := fun q => hcl
  go_wp2_with fail
  go_quiet ((go_at_call 11; exact Calls.quiet_of_same (HRH.out _)))
  have hL4 : HL w1.heap.size g c9 n bs w1 (w3.drewN nq) 0 := ⟨by
    have := HO3.out
    rw [show turned bs 0 = bs from by simp [turned]]
    exact this, HB3.out.trans (below_drewN (Below.refl _ _) nq)⟩
  generalize w3.drewN nq = W4 at hL4 ⊢
  have HL4 : Hid _ := hL4
  clear hL4 hcv1 hcv2 hcl hcl2 HRH HF3 HFA HO3 HB3
  go_wp2_with fail
  go_loopw [10] (fun s10 wr => ∃ k : Nat, k ≤ n ∧ s10 = .int .i64 k ∧ HL w1.heap.size g c9 n bs w1 wr k) (fun s10 _ => n - (intOf s10).toNat)
  case atStart => exact ⟨0, by omega, rfl, HL4.out⟩
  case round =>
    obtain ⟨k, hk, rfl, hR⟩ := hrel
    by_cases hlt : k < n
    · have hkb : k < bs.length := by have := HL0.out; omega
      obtain ⟨u, hu⟩ : ∃ u, u = bs[k] := ⟨_, rfl⟩
      have hc : wr.cell? ⟨g, k, none⟩ = some (.int .u8 (u.toNat : Int)) := by
        have := World.ownsRow.cellAt hR.row k (by omega)
        rw [this, turned_at _ hkb, ← hu]
        rfl
      have hfz : wr.frozen? ⟨g, k, none⟩ = false := World.ownsRow.frozenAt hR.row k
      have hfl := flip1_bits u
      have hst := World.ownsRow.stored hR.row k (B8 (flip1 u))
      rw [turned_set (u := u) (by rw [hu]; exact List.getElem?_eq_getElem hkb)] at hst
      have hg1 : w1.heap.size ≤ g := (hR.row.lt g rfl).1
      have hb2 : Below w1.heap.size w1 (wr.setCell ⟨g, k, none⟩ (B8 (flip1 u))) := hR.bel.setCell hg1 _
      have HN : Hid (HL w1.heap.size g c9 n bs w1 (wr.setCell ⟨g, k, none⟩ (.int .u8 ((flip1 u).toNat : Int))) (k + 1)) := ⟨hst.1, hb2⟩
      clear hst hb2 hR hu hkb hg1
      go_wp2_with fail
      go_roundw
      case rel => exact ⟨k + 1, by omega, by go_num, HN.out⟩
      case measure => simp [intOf]; omega
    · obtain rfl : k = n := by omega
      have hT : turned bs k = bs.map flip1 := by unfold turned; have := HL0.out; rw [List.take_of_length_le (by omega), List.drop_of_length_le (by omega), List.append_nil]
      have hrow := hR.row
      rw [hT] at hrow
      have hFr : BFrom wr (some ⟨g, 0, none⟩) (bs.map flip1) := own_b hrow
      obtain ⟨xs, hxs⟩ : ∃ xs, xs = bs.map flip1 := ⟨_, rfl⟩
      have hxl : xs.length = k := by rw [hxs, List.length_map]; exact HL0.out
      rw [← hxs] at hFr
      obtain ⟨v5, w5, hr5, ho5, hg5⟩ := app_bytes (w := wr) (xs := []) (World.ownsRow_nil wr wr.heap.size 5 1) (ao := some ⟨g, 0, none⟩) (cap := c9) hxl (fun h => by cases h) hFr (by omega) (Nat.le_refl _)
      rw [Nat.zero_add, List.nil_append] at ho5
      have hb5 : Below wr.heap.size wr w5 := hg5.below (fun j hj => by cases hj) (Nat.le_refl _)
      obtain ⟨ao5, cap5, hv5, hc5⟩ := own_slice ho5
      subst hv5
      have hFo : BFrom w5 ao5 xs := fun h0 => by
        obtain ⟨ao', cap', e, _, _, h⟩ := own_read ho5
        cases e
        obtain ⟨g5, rfl, _, _, hc⟩ := h (by omega)
        exact ⟨g5, 0, rfl, fun j u hu => by rw [Nat.zero_add]; exact hc j _ (by rw [List.getElem?_map, hu]; rfl)⟩
      have HR5 : Hid (∀ ty, (Builtin.append_ #[22, 22] ty #[.slice none 0 0, .slice (some ⟨g, 0, none⟩) k c9]).run Try.prog wr = .ok (.slice ao5 k cap5) w5) := hr5
      have HFo : Hid (BFrom w5 ao5 xs) := hFo
      have HFr : Hid (BFrom w5 (some ⟨g, 0, none⟩) xs) := hFr.more hb5
      have HXL : Hid (xs.length = k) := hxl
      have HBF : Hid (Below w.heap.size w w5) := HB1.out.trans ((hR.bel.trans (hb5.mono hR.bel.size)).mono HB1.out.size)
      clear hr5 hFo hFr hxl hrow hT hR hb5 ho5 hg5 hxs HL4 hc5 HB1
      go_wp2_with (at_builtin; refine wpList_runs rfl _ _ 22 rfl rfl rfl HR5.out ?_)
      refine Calls.mono (rhash_any ao5 k cap5 xs w5 HXL.out (by omega) HFo.out) ?_
      rintro e w6 ⟨rfl, hw6⟩
      replace hw6 := hw6.symm
      subst hw6
      obtain ⟨H2, hH2⟩ : ∃ H2, H2 = hashN xs := ⟨_, rfl⟩
      have hHlt2 : H2 < 4294967296 := by rw [hH2]; exact hashN_lt xs
      rw [← hH2]
      have HC10 : Hid (Calls Try.prog 10 #[.slice (some ⟨g, 0, none⟩) k c9] w5 fun e w' => e = .returned (.int .u32 (H2 : Nat)) ∧ w' = w5) := by
        rw [hH2]
        exact hash_any (some ⟨g, 0, none⟩) k c9 xs w5 HXL.out (by omega) HFr.out
      clear hH2 HR5 HFo HFr
      go_wp2_with fail
      refine Calls.mono HC10.out ?_
      rintro e w6 ⟨rfl, hw6⟩
      replace hw6 := hw6.symm
      subst hw6
      go_wp2_with fail
      refine Calls.mono (home_any nm r w5 hnm hr) ?_
      rintro e w6 ⟨rfl, hb6⟩
      have HB6 : Hid (Below w.heap.size w w6) := HBF.out.trans (hb6.mono HBF.out.size)
      obtain ⟨hm, hhm⟩ : ∃ hm, hm = homeN nm r := ⟨_, rfl⟩
      rw [← hhm]
      have HRM : Hid (Calls Try.prog 13 #[.string ⟨nm.toArray⟩, .int .i64 r] w6 fun e w' => e = .returned (.int .i64 hm) ∧ Below w6.heap.size w6 w') := by
        rw [hhm]
        exact rhome_any nm r w6 hnm hr
      clear hb6 hhm HBF
      go_wp2_with fail
      refine Calls.mono HRM.out ?_
      rintro e w7 ⟨rfl, hb7⟩
      have HB7 : Hid (Below w.heap.size w w7) := HB6.out.trans (hb7.mono HB6.out.size)
      clear hb7 HB6 HRM
      go_wp2_with fail
      refine Calls.mono (good_any nm w7 hnm) ?_
      rintro e w8 ⟨rfl, hw8⟩
      replace hw8 := hw8.symm
      subst hw8
      go_wp2_with fail
      refine Calls.mono (rgood_any nm w7 hnm) ?_
      rintro e w8 ⟨rfl, hw8⟩
      replace hw8 := hw8.symm
      subst hw8
      generalize nameB nm = b
      go_wp2_with fail
      go_ret
      exact ⟨by simp, HB7.out⟩
end Go.Proofs.Ytbjlaloofpdbfaa
