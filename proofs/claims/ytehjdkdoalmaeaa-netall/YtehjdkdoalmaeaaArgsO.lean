import Derived.Test.YtehjdkdoalmaeaaArgs
namespace Go.Proofs.Ytehjdkdoalmaeaa
open Go.ChangeShapes Go.WideShapes Go.ChangeAt Go.RowKit Go.WideMaps Go.WideElems Go.PlainAid
set_option linter.unusedVariables false

/-- A call, as the script holds it. -/
structure OpA where
  kind : Int
  who : Int
  i : Int
  j : Int
  l : ArgL
structure OpAt (W : World) (b off : Nat) (o : OpA) : Prop where
  c0 : W.cell? ⟨b, off, none⟩ = some (.int .i64 o.kind)
  c1 : W.cell? ⟨b, off + 1, none⟩ = some (.int .i64 o.who)
  c2 : W.cell? ⟨b, off + 2, none⟩ = some (.int .i64 o.i)
  c3 : W.cell? ⟨b, off + 3, none⟩ = some (.int .i64 o.j)
  l : LetAt W b (off + 4) o.l
theorem cells43 : Try.prog.cellsOf 43 = 7 := by kernel_rfl

set_option maxRecDepth 100000 in
/-- A letter, by its cells. -/
theorem let_core {H : Type} {enc : TypeId × Value → H} {W : World} {fuel : Nat} {b off : Nat} {cs : List Value} {y : DataW H × List MemPlace} (hcell : ∀ j, j < 3 → W.cell? ⟨b, off + j, none⟩ = cs[j]?) (ht : DataW.trod enc Try.prog W 0 (fun _ => true) true fuel 31 cs = some y) (hsz : ∀ n ∈ y.1.weights Try.prog 31, n ≤ reachBytes) : ∃ c, LetAt W b off c ∧ ArgOk W c := by
  obtain ⟨xs, m, _, hx, _, hxl, hf⟩ := DataW.trod_struct Try.underlying31 ht
  have hxl' : xs.length = 3 := hxl
  have f0 := hf 0 _ rfl
  have f1 := hf 1 _ rfl
  have f2 := hf 2 _ rfl
  rw [List.getElem?_eq_getElem (by omega)] at f0 f1 f2
  obtain ⟨z0, e0, _, w0⟩ := DataW.trod_int Try.underlying3 f0
  obtain ⟨z1, e1, _, w1⟩ := DataW.trod_int Try.underlying3 f1
  have at_ : ∀ (k : Nat) (v : Value), (cs.drop k).take 1 = [v] → cs[k]? = some v := fun k v e => by
    have := congrArg (fun l => l[0]?) e
    simpa [List.getElem?_take, List.getElem?_drop] using this
  have a0 : W.cell? ⟨b, off, none⟩ = some (.int .i64 z0) := (hcell 0 (by omega)).trans (at_ 0 _ e0)
  have a1 : W.cell? ⟨b, off + 1, none⟩ = some (.int .i64 z1) := (hcell 1 (by omega)).trans (at_ 1 _ e1)
  rcases open_ints Try.underlying29 Try.underlying5 cells5 f2 with ⟨hs, _⟩ | ⟨a, len, cap, zs, hs, _, hle, hm, hz, hx3, hc3, hwz⟩
  · exact ⟨⟨z0, z1, none, 0, []⟩, ⟨a0, a1, (hcell 2 (by omega)).trans (at_ 2 _ hs)⟩, ⟨Nat.zero_le _, fun _ => ⟨rfl, rfl⟩, (fun h => by simp at h)⟩⟩
  · have g3 : cs[2]? = some (.slice (some a) len cap) := at_ 2 _ hs
    simp only [if_true] at hz
    have hsize : len ≤ reachBytes := by
      refine Nat.le_trans ?_ (hsz (((zs.take len).length + (zs.drop len).length) * Try.prog.bytesOf 5) ?_)
      · rw [bytes5]; simp; omega
      · rw [hx]
        simp only [DataW.weights, Try.underlying31]
        refine DataW.weights_mem_each (j := 2) (t := 29) (d := xs[2].1) rfl (by rw [List.getElem?_map, List.getElem?_eq_getElem (by omega)]; rfl) _ ?_
        rw [hx3]
        simp only [DataW.weights, Try.underlying29]
        refine List.mem_cons.2 (.inl ?_)
        simp [lits]
    have hlen : ((zs.take len).map (fun z => UInt8.ofNat z.toNat)).length = len := by simp; omega
    refine ⟨⟨z0, z1, some a, cap, (zs.take len).map (fun z => UInt8.ofNat z.toNat)⟩, ⟨a0, a1, ?_⟩, ⟨by simp only [hlen]; rw [← reach_is]; exact hsize, (fun h => by cases h), fun h0 => ?_⟩⟩
    · rw [hcell 2 (by omega), g3, ArgL.d]
      simp only [hlen]
    · simp only [hlen] at h0
      obtain ⟨b2, off2, rfl⟩ := spot_none (hc3 0 (by omega))
      refine ⟨b2, off2, rfl, fun j u hu => ?_⟩
      rw [List.getElem?_map, List.getElem?_take] at hu
      split at hu
      · have hjz : j < zs.length := by omega
        rw [List.getElem?_eq_getElem hjz] at hu
        cases hu
        have := hc3 j hjz
        rw [addr_add] at this
        rw [this, B]
        have hw := hwz zs[j] (List.getElem_mem hjz)
        have hb := bounds_u8 hw
        have e2 : zs.getD j 0 = zs[j] := by rw [List.getD_eq_getElem?_getD, List.getElem?_eq_getElem hjz]; rfl
        rw [e2]
        congr 1
        apply val_u8
        simp
        omega
      · cases hu

set_option maxRecDepth 100000 in
theorem open_op {H : Type} {enc : TypeId × Value → H} {W : World} {fuel : Nat} {ad : Addr} {y : DataW H × List MemPlace}
    (h : (W.cells? 0 ad 7).bind (DataW.trod enc Try.prog W 0 (fun _ => true) true fuel 43) = some y) (hsz : ∀ n ∈ y.1.weights Try.prog 43, n ≤ reachBytes) : ∃ o b off, ad = ⟨b, off, none⟩ ∧ OpAt W b off o ∧ ArgOk W o.l := by
  rw [Option.bind_eq_some_iff] at h
  obtain ⟨cs, hcs, ht⟩ := h
  obtain ⟨_, hl, hcell⟩ := World.cells?_some hcs
  obtain ⟨xs, m, _, hx, _, hxl, hf⟩ := DataW.trod_struct Try.underlying43 ht
  have hxl' : xs.length = 5 := hxl
  have f0 := hf 0 _ rfl
  have f1 := hf 1 _ rfl
  have f2 := hf 2 _ rfl
  have f3 := hf 3 _ rfl
  have f4 := hf 4 _ rfl
  rw [List.getElem?_eq_getElem (by omega)] at f0 f1 f2 f3 f4
  obtain ⟨z0, e0, _, w0⟩ := DataW.trod_int Try.underlying3 f0
  obtain ⟨z1, e1, _, w1⟩ := DataW.trod_int Try.underlying3 f1
  obtain ⟨z2, e2, _, w2⟩ := DataW.trod_int Try.underlying3 f2
  obtain ⟨z3, e3, _, w3⟩ := DataW.trod_int Try.underlying3 f3
  have at_ : ∀ (k : Nat) (v : Value), (cs.drop k).take 1 = [v] → cs[k]? = some v := fun k v e => by
    have := congrArg (fun l => l[0]?) e
    simpa [List.getElem?_take, List.getElem?_drop] using this
  have g0 : cs[0]? = some (.int .i64 z0) := at_ 0 _ e0
  have a0 : W.cell? ad = some (.int .i64 z0) := by
    have := hcell 0 (by omega)
    rw [g0] at this
    exact this
  obtain ⟨b, off, rfl⟩ := spot_none a0
  have hc : ∀ j, j < 7 → W.cell? ⟨b, off + j, none⟩ = cs[j]? := fun j hj => by
    have := hcell j (by omega)
    rwa [addr_add] at this
  have f4' : DataW.trod enc Try.prog W 0 (fun _ => true) true _ 31 ((cs.drop 4).take 3) = some xs[4] := f4
  obtain ⟨c, hlc, hok⟩ := let_core (b := b) (off := off + 4) (cs := (cs.drop 4).take 3) (fun j hj => by
    rw [List.getElem?_take, if_pos hj, List.getElem?_drop, show off + 4 + j = off + (4 + j) from by omega]
    exact hc (4 + j) (by omega)) f4' (fun n hn => hsz n (by
      rw [hx]
      simp only [DataW.weights, Try.underlying43]
      exact DataW.weights_mem_each (j := 4) (t := 31) (d := xs[4].1) rfl (by rw [List.getElem?_map, List.getElem?_eq_getElem (by omega)]; rfl) n hn))
  exact ⟨⟨z0, z1, z2, z3, c⟩, b, off, rfl, ⟨a0, (hc 1 (by omega)).trans (at_ 1 _ e1), (hc 2 (by omega)).trans (at_ 2 _ e2), (hc 3 (by omega)).trans (at_ 3 _ e3), hlc⟩, hok⟩

set_option maxRecDepth 100000 in
/-- The script that came in. -/
theorem open_ops {H : Type} {enc : TypeId × Value → H} {W : World} {base : Nat} {v : Value} {d : DataW H} {p : List MemPlace}
    (hval : Value.okWide Try.prog W .any base 40 v) (h0 : DataW.Trod enc Try.prog W 0 (fun _ => true) true 40 v d p) (hsz : ∀ n ∈ d.weights Try.prog 40, n ≤ reachBytes) :
    ∃ (ao : Option Addr) (N cap : Nat) (os : List OpA), v = .slice ao N cap ∧ os.length = N ∧ N ≤ maxLen ∧ (∀ o ∈ os, ArgOk W o.l) ∧ (0 < N → ∃ b off, ao = some ⟨b, off, none⟩ ∧ ∀ i o, os[i]? = some o → OpAt W b (off + i * 7) o) := by
  obtain ⟨a0, len, cap, rfl⟩ := okWide_slice Try.underlying40 hval
  obtain ⟨fuel, hf⟩ := h0
  rcases DataW.trod_slice Try.underlying40 hf with ⟨hcs, hx⟩ | ⟨a, len', cap', elems, rest, m, _, hcs, hx, _, hl, hm, hel, he, _, _⟩
  · have e : Value.slice a0 len cap = .slice none 0 0 := by simpa [Value.cells] using hcs
    cases e
    exact ⟨none, 0, 0, [], rfl, rfl, Nat.zero_le _, (fun c hc => by cases hc), fun h => by omega⟩
  · have e : Value.slice a0 len cap = .slice (some a) len' cap' := by simpa [Value.cells] using hcs
    cases e
    rw [cells43] at he
    have hxd : d = .slice (elems.map (·.1)) (rest.map (·.1)) := (Prod.mk.inj hx).1
    obtain ⟨cs, hcl, hc⟩ := list_of (fun i o => ∃ b off, a.add (i * 7) = ⟨b, off, none⟩ ∧ OpAt W b off o ∧ ArgOk W o.l) len fun i hi => by
      have h1 := he i hi
      rw [List.getElem?_eq_getElem (by omega)] at h1
      refine open_op h1 fun n hn => hsz n ?_
      rw [hxd]
      simp only [DataW.weights, Try.underlying40]
      refine List.mem_cons.2 (.inr (List.mem_append.2 (.inl ?_)))
      exact weights_all (i := i) (d := elems[i].1) (by rw [List.getElem?_map, List.getElem?_eq_getElem (by omega)]; rfl) n hn
    refine ⟨some a, len, cap, cs, rfl, hcl, by omega, fun c hcm => ?_, fun hN => ?_⟩
    · obtain ⟨i, hi⟩ := List.getElem?_of_mem hcm
      obtain ⟨_, _, _, _, h⟩ := hc i c hi
      exact h
    · obtain ⟨b, off, e0, _⟩ := hc 0 cs[0] (List.getElem?_eq_getElem (by omega))
      rw [Nat.zero_mul, add_zero'] at e0
      subst e0
      refine ⟨b, off, rfl, fun i c hi => ?_⟩
      obtain ⟨b2, off2, e2, h2, _⟩ := hc i c hi
      rw [addr_add] at e2
      cases e2
      exact h2

def total (os : List OpA) (k : Nat) : Nat := ((os.take k).map (fun o => o.l.bs.length)).sum
theorem total_succ (os : List OpA) (k : Nat) (o : OpA) (h : os[k]? = some o) : total os (k + 1) = total os k + o.l.bs.length := by
  simp [total, List.take_add_one, h]
theorem total_le (os : List OpA) (W : World) (k : Nat) (h : ∀ o ∈ os, ArgOk W o.l) : total os k ≤ k * 140737488351232 := by
  induction k with
  | zero => simp [total]
  | succ k ih =>
    by_cases hk : k < os.length
    · rw [total_succ os k _ (List.getElem?_eq_getElem hk)]
      have := (h _ (List.getElem_mem hk)).size
      omega
    · have : total os (k + 1) = total os k := by simp [total, List.take_of_length_le (by omega : os.length ≤ k), List.take_of_length_le (by omega : os.length ≤ k + 1)]
      omega
theorem mem_le_sum : ∀ (l : List Nat) (x : Nat), x ∈ l → x ≤ l.sum
  | y :: l, x, h => by
    rcases List.mem_cons.1 h with rfl | h
    · simp
    · have := mem_le_sum l x h
      simp only [List.sum_cons]
      omega
theorem total_mem (os : List OpA) (o : OpA) (h : o ∈ os) : o.l.bs.length ≤ total os os.length := by
  simp only [total, List.take_length]
  exact mem_le_sum _ _ (List.mem_map.2 ⟨o, h, rfl⟩)
def Fits (os : List OpA) (b : Bool) : Prop := b = true → os.length ≤ 2000 ∧ ∀ o ∈ os, o.l.bs.length ≤ 1048576
set_option maxRecDepth 100000 in
set_option maxHeartbeats 1600000 in
theorem fits_any (ao : Option Addr) (N cap : Nat) (os : List OpA) (w : World) (hN : os.length = N) (hmax : N ≤ maxLen) (hok : ∀ o ∈ os, ArgOk w o.l) (hat : 0 < N → ∃ b off, ao = some ⟨b, off, none⟩ ∧ ∀ i o, os[i]? = some o → OpAt w b (off + i * 7) o) :
    Calls Try.prog 17 #[.slice ao N cap] w fun e w' => (∃ b, e = .returned (.bool b) ∧ Fits os b) ∧ w' = w := by
  have hmax' : N ≤ 9223372036854775807 := by simpa [maxLen] using hmax
  go_enter Try.func17, Try.ntmps17
  go_wp2
  go_loopw [3, 4] (fun n i wr => ∃ k : Nat, k ≤ N ∧ i = .int .i64 k ∧ (∃ z : Int, n = .int .i64 z ∧ (k ≤ 2000 → z = (total os k : Nat))) ∧ wr = w) (fun _ i _ => N - (intOf i).toNat)
  case atStart => exact ⟨0, Nat.zero_le _, rfl, ⟨0, rfl, fun _ => rfl⟩, rfl⟩
  case round =>
    obtain ⟨k, hk, rfl, ⟨z, rfl, hz⟩, rfl⟩ := hrel
    by_cases hlt : k < N
    · obtain ⟨b, off, rfl, hcell⟩ := hat (by omega)
      obtain ⟨o, ho⟩ : ∃ o, os[k]? = some o := ⟨os[k]'(by omega), List.getElem?_eq_getElem _⟩
      have d2 := (hcell k o ho).l.c2
      simp only [ArgL.d] at d2
      have d2' := d2
      rw [show off + k * 7 + 4 + 2 = off + k * 7 + 6 from by omega] at d2'
      have hts := total_succ os k o ho
      have htl := total_le os wr k hok
      have hol := (hok o (List.mem_of_getElem? ho)).size
      clear hcell hat
      by_cases h2000 : k < 2000
      · have hz' := hz (by omega)
        subst hz'
        have HTS : Hid _ := hts
        clear hts hz
        generalize total os k = tk at *
        go_wp2
        go_roundw
        case rel => exact ⟨k + 1, by omega, by go_num, ⟨_, rfl, fun _ => by rw [HTS.out]; omega⟩, trivial⟩
        case measure => simp [intOf]; omega
      · clear hz hts
        go_wp2
        go_roundw
        case rel => exact ⟨k + 1, by omega, by go_num, ⟨_, rfl, fun h => by omega⟩, trivial⟩
        case measure => simp [intOf]; omega
    · obtain rfl : N = k := by omega
      by_cases h2000 : N ≤ 2000
      · have hz' := hz h2000
        subst hz'
        have HF : Hid (∀ o ∈ os, o.l.bs.length ≤ total os N) := fun o ho => by rw [← hN]; exact total_mem os o ho
        clear hz hat hok
        generalize total os N = tk at *
        go_wp2
        go_ret
        refine ⟨⟨_, rfl, fun h => ⟨by omega, fun o ho => ?_⟩⟩, rfl⟩
        have := HF.out o ho
        simp at h
        omega
      · clear hz hat hok
        go_wp2
        go_ret
        exact ⟨Or.inl ⟨rfl, fun h => by cases h⟩, rfl⟩
end Go.Proofs.Ytehjdkdoalmaeaa
