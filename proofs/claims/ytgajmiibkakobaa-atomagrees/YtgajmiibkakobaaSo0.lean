import Derived.Test.YtgajmiibkakobaaApp
import Derived.Test.YtgajmiibkakobaaHo
namespace Go.Proofs.Ytgajmiibkakobaa
open Go.RowKit Go.PlainAid Go.MapKept
set_option linter.unusedVariables false
set_option linter.unusedSimpArgs false
/-- What Peek tells. -/
structure Lk where
  val : Int
  held : Int
  lim : Int
  is : Bool
def Lk.row (x : Lk) : List Value := [.int .i64 x.val, .int .i64 x.held, .int .i64 x.lim, .bool x.is]
def Lk.cs (x : Lk) : Array Value := #[.int .i64 x.val, .int .i64 x.held, .int .i64 x.lim, .bool x.is]
def lkOf (L : List (List UInt8 × Ct)) (n : List UInt8) : Lk := ⟨(ctOf n L).val, (ctOf n L).held, (ctOf n L).lim, isOf n L⟩
def flatL (ls : List Lk) : List Value := ls.flatMap Lk.row
theorem flatL_app (a : List Lk) (b : Lk) : flatL (a ++ [b]) = flatL a ++ b.row := by simp [flatL]
theorem flatL_at : ∀ {ls : List Lk} {q : Nat} {x : Lk} (j : Nat), ls[q]? = some x → j < 4 → (flatL ls)[q * 4 + j]? = x.row[j]?
  | [], q, x, j, h, _ => by simp at h
  | y :: t, 0, x, j, h, hj => by
    simp at h
    subst h
    show (y.row ++ flatL t)[0 * 4 + j]? = _
    rw [List.getElem?_append_left (by simp [Lk.row]; omega)]
    simp
  | y :: t, q + 1, x, j, h, hj => by
    have ih := flatL_at (ls := t) (q := q) (x := x) j (by simpa using h) hj
    show (y.row ++ flatL t)[(q + 1) * 4 + j]? = _
    rw [List.getElem?_append_right (by simp [Lk.row]; omega), ← ih]
    congr 1
    simp [Lk.row]
    omega
theorem info45 : (Try.prog.info? 45).map (fun i => (i.zero, i.size, i.bytes)) = some (some (.agg #[.int .i64 0, .int .i64 0, .int .i64 0, .bool false]), 4, 32) := by kernel_rfl
def Sv (n : List UInt8) : Value := .string ⟨n.toArray⟩
/-- What an owned row holds, cell by cell. -/
theorem own_at {w : World} {base e s n : Nat} {v : Value} {xs : List Value} (h : w.ownsRow base e s v n xs) (h0 : 0 < n) : ∃ g cap, v = .slice (some ⟨g, 0, none⟩) n cap ∧ n ≤ cap ∧ base ≤ g ∧ g < w.heap.size ∧ ∀ j x, xs[j]? = some x → w.cell? ⟨g, j, none⟩ = some x := by
  rcases h.2 with ⟨rfl, rfl⟩ | ⟨g, cap, cur, rfl, hb, hg, hc, hm, hcs, htake⟩
  · omega
  · refine ⟨g, cap, rfl, hc, (ownsRow_lt h rfl).1, (ownsRow_lt h rfl).2, fun j x hx => ?_⟩
    have := h.cells (g := g) rfl j x hx
    rwa [addr_add, Nat.zero_add] at this
set_option maxRecDepth 100000 in
set_option maxHeartbeats 3200000 in
theorem spoken_any (ao : Option Addr) (KN cap : Nat) (os : List AA) (w0 w : World) (hb0 : Below w0.heap.size w0 w) (hl : os.length = KN)
    (hat : 0 < KN → ∃ b off, ao = some ⟨b, off, none⟩ ∧ ∀ i o, os[i]? = some o → RowAt w0 b (off + i * 5) o.row) (hcm : KN ≤ maxLen) :
    Calls Try.prog 15 #[.slice ao KN cap] w fun e w' => ∃ (v : Value) (nms : List (List UInt8)), e = .returned v ∧ nms.length ≤ 300 ∧ (∀ i o, i < 300 → os[i]? = some o → nms[i]? = some o.o.n) ∧ w'.ownsRow w.heap.size 9 1 v nms.length (nms.map Sv) ∧ Below w.heap.size w w' := by
  unfold maxLen at hcm
  have HAT : Hid (0 < KN → ∃ b off, ao = some ⟨b, off, none⟩ ∧ ∀ i o, os[i]? = some o → RowAt w0 b (off + i * 5) o.row) := hat
  have HLE : Hid (os.length = KN) := hl
  have HB0 : Hid (Below w0.heap.size w0 w) := hb0
  clear hat hl hb0
  go_enter Try.func15, Try.ntmps15
  go_wp2_with fail
  go_loopw [3, 4] (fun s3 s4 wr => ∃ (q : Nat) (v : Value), v = s3 ∧ q ≤ KN ∧ q ≤ 300 ∧ s4 = .int .i64 q ∧ wr.ownsRow w.heap.size 9 1 v q (((os.take q).map (fun o : AA => o.o.n)).map Sv) ∧ Below w.heap.size w wr) (fun _ s4 _ => 300 - (intOf s4).toNat)
  case atStart => exact ⟨0, _, rfl, Nat.zero_le _, Nat.zero_le _, rfl, World.ownsRow_nil _ _ _ _, Below.refl _ _⟩
  case round =>
    obtain ⟨q, v, rfl, hqK, hq3, rfl, hrow, hbw⟩ := hrel
    by_cases hlt : q < KN ∧ q < 300
    · obtain ⟨b, off, hao, hr0⟩ := HAT.out (by omega)
      subst hao
      have hqo : q < os.length := by rw [HLE.out]; exact hlt.1
      have hget : os[q]? = some os[q] := List.getElem?_eq_getElem hqo
      have hr := hr0 q os[q] hget
      have hr2 := hr.below (HB0.out.trans (hbw.mono HB0.out.size)) (hr.lt (by show 0 < 5; decide))
      obtain ⟨c0, c1, c2, c3, c4⟩ := hr2.act
      obtain ⟨v', w', h1, h2, h3⟩ := app_one 39 9 (.string ⟨#[]⟩) 1 16 Try.underlying39 info9 rfl (by decide) (by decide) hrow #[.string ⟨os[q].o.n.toArray⟩] rfl (fun u hu => by simp at hu; subst hu; rfl) (by omega) hbw.size
      have HT : Hid (w'.ownsRow w.heap.size 9 1 v' (q + 1) (((os.take (q + 1)).map (fun o : AA => o.o.n)).map Sv)) := show w'.ownsRow w.heap.size 9 1 v' (q + 1) (((os.take (q + 1)).map (fun o : AA => o.o.n)).map Sv) from by
        rw [show os.take (q + 1) = os.take q ++ [os[q]] from by rw [List.take_add_one, hget]; rfl, List.map_append, List.map_append]
        exact h2
      have HB : Hid (Below w.heap.size w w') := hbw.trans (h3.below (fun j hj => (ownsRow_lt hrow hj).1) hbw.size)
      have HR : Hid _ := h1
      obtain ⟨ao2, cap2, hv, _⟩ := own_slice hrow
      subst hv
      have hlt1 := hlt.1
      have hlt2 := hlt.2
      generalize os[q] = o at *
      obtain ⟨⟨ok, on, oa, ob_⟩, oq⟩ := o
      simp only at c1 HR
      clear hr0 hr hr2 hget h1 h2 h3 hrow hbw c0 c2 c3 c4 hlt hqo
      go_wp2_with (at_builtin; refine wpList_runs rfl _ _ 39 rfl rfl rfl HR.out ?_)
      go_roundw
      case rel => exact ⟨q + 1, _, rfl, by omega, by omega, by go_num, HT.out, HB.out⟩
      case measure => simp [intOf]; omega
    · have hlen : ((os.take q).map (fun o : AA => o.o.n)).length = q := by rw [List.length_map, List.length_take, HLE.out]; omega
      have HF : Hid (wr.ownsRow w.heap.size 9 1 v ((os.take q).map (fun o : AA => o.o.n)).length (((os.take q).map (fun o : AA => o.o.n)).map Sv)) := show wr.ownsRow w.heap.size 9 1 v _ _ from by rw [hlen]; exact hrow
      have HAL : Hid (∀ i o, i < 300 → os[i]? = some o → ((os.take q).map (fun o : AA => o.o.n))[i]? = some o.o.n) := fun i o hi ho => by
        have hil := (List.getElem?_eq_some_iff.1 ho).1
        have : i < q := by rw [HLE.out] at hil; omega
        rw [List.getElem?_map, List.getElem?_take_of_lt this, ho]
        rfl
      have HB : Hid (Below w.heap.size w wr) := hbw
      clear hrow hbw
      by_cases hq4 : q < KN
      · have hq5 : ¬ q < 300 := by omega
        clear hlt
        go_wp2_with fail
        go_ret
        exact ⟨_, _, rfl, by omega, HAL.out, HF.out, HB.out⟩
      · clear hlt
        go_wp2_with fail
        go_ret
        exact ⟨_, _, rfl, by omega, HAL.out, HF.out, HB.out⟩
set_option maxRecDepth 100000 in
set_option maxHeartbeats 3200000 in
theorem looked_any {ab mb B0 : Nat} {L : List (List UInt8 × Ct)} (nv : Value) (nms : List (List UInt8)) (w : World) (hA : AM ab mb L w) (hN : w.ownsRow B0 9 1 nv nms.length (nms.map Sv)) (h3 : nms.length ≤ 300) :
    Calls Try.prog 16 #[.pointer (some ⟨ab, 0, none⟩), nv] w fun e w' => ∃ v, e = .returned v ∧ w'.ownsRow w.heap.size 45 4 v nms.length (flatL (nms.map (lkOf L))) ∧ Below w.heap.size w w' := by
  obtain ⟨M, hM⟩ : ∃ M, M = nms.length := ⟨_, rfl⟩
  rw [← hM] at h3 hN ⊢
  obtain ⟨no, nc, hnv, _⟩ := own_slice hN
  subst hnv
  have HN : Hid (w.ownsRow B0 9 1 (.slice no M nc) M (nms.map Sv)) := hN
  have HM : Hid (M = nms.length) := hM
  have HA : Hid (AM ab mb L w) := hA
  clear hN hM hA
  go_enter Try.func16, Try.ntmps16
  go_wp2_with fail
  go_loopw [5, 6] (fun s5 s6 wr => ∃ (q : Nat) (v : Value), v = s5 ∧ q ≤ M ∧ s6 = .int .i64 q ∧ wr.ownsRow w.heap.size 45 4 v q (flatL ((nms.take q).map (lkOf L))) ∧ Below w.heap.size w wr) (fun _ s6 _ => M - (intOf s6).toNat)
  case atStart => exact ⟨0, _, rfl, Nat.zero_le _, rfl, World.ownsRow_nil _ _ _ _, Below.refl _ _⟩
  case round =>
    obtain ⟨q, v, rfl, hqM, rfl, hrow, hbw⟩ := hrel
    by_cases hlt : q < M
    · obtain ⟨nm, hnm⟩ : ∃ nm, nms[q]? = some nm := ⟨_, List.getElem?_eq_getElem (by rw [← HM.out]; exact hlt)⟩
      obtain ⟨g, gc, hg, _, _, hgl, hcell⟩ := own_at HN.out (by omega)
      cases hg
      have c0 : wr.cell? ⟨g, q, none⟩ = some (.string ⟨nm.toArray⟩) := (hbw.cell (p := ⟨g, q, none⟩) hgl).trans (hcell q _ (by rw [List.getElem?_map, hnm]; rfl))
      have HP : Hid _ := peek_any nm wr (HA.out.more hbw)
      have hpk : lkOf L nm = ⟨(ctOf nm L).val, (ctOf nm L).held, (ctOf nm L).lim, isOf nm L⟩ := rfl
      have HK : Hid (flatL ((nms.take (q + 1)).map (lkOf L)) = flatL ((nms.take q).map (lkOf L)) ++ [.int .i64 (ctOf nm L).val, .int .i64 (ctOf nm L).held, .int .i64 (ctOf nm L).lim, .bool (isOf nm L)]) := show _ = _ from by
        rw [show nms.take (q + 1) = nms.take q ++ [nm] from by rw [List.take_add_one, hnm]; rfl, List.map_append, List.map_singleton, flatL_app]
        rfl
      generalize (ctOf nm L).val = t1 at *
      generalize (ctOf nm L).held = t2 at *
      generalize (ctOf nm L).lim = t3 at *
      generalize isOf nm L = t4 at *
      have HR0 : Hid (wr.ownsRow w.heap.size 45 4 v q (flatL ((nms.take q).map (lkOf L)))) := hrow
      have HB0 : Hid (Below w.heap.size w wr) := hbw
      obtain ⟨ao2, cap2, hv, _⟩ := own_slice hrow
      subst hv
      clear hrow hbw hnm hcell hgl hpk
      go_wp2_with fail
      refine Calls.mono HP.out ?_
      rintro e9 w5 ⟨rfl, hb5⟩
      have hr5 := ownsRow_same HR0.out (fun g hg => hb5.block g (ownsRow_lt HR0.out hg).2)
      have hb5w := HB0.out.trans (hb5.mono HB0.out.size)
      obtain ⟨v', w', h1, h2, h3'⟩ := app_one 41 45 (.agg #[.int .i64 0, .int .i64 0, .int .i64 0, .bool false]) 4 32 Try.underlying41 info45 rfl (by decide) (by decide) hr5 #[.int .i64 t1, .int .i64 t2, .int .i64 t3, .bool t4] rfl (fun u hu => by simp at hu; rcases hu with rfl | rfl | rfl | rfl <;> rfl) (by omega) hb5w.size
      have HT : Hid (w'.ownsRow w.heap.size 45 4 v' (q + 1) (flatL ((nms.take (q + 1)).map (lkOf L)))) := show w'.ownsRow w.heap.size 45 4 v' (q + 1) _ from by rw [HK.out]; exact h2
      have HB : Hid (Below w.heap.size w w') := hb5w.trans (h3'.below (fun j hj => (ownsRow_lt hr5 hj).1) hb5w.size)
      have HR : Hid _ := h1
      clear h1 h2 h3' hr5 hb5 hb5w HP HK HR0 HB0 c0
      go_wp2_with (at_builtin; refine wpList_runs rfl _ _ 41 rfl rfl rfl HR.out ?_)
      go_roundw
      case rel => exact ⟨q + 1, _, rfl, by omega, by go_num, HT.out, HB.out⟩
      case measure => simp [intOf]; omega
    · obtain rfl : q = M := by omega
      have HF : Hid (wr.ownsRow w.heap.size 45 4 v q (flatL (nms.map (lkOf L)))) := show wr.ownsRow w.heap.size 45 4 v q _ from by
        rw [List.take_of_length_le (by rw [← HM.out]; exact Nat.le_refl _)] at hrow
        exact hrow
      have HB : Hid (Below w.heap.size w wr) := hbw
      clear hrow hbw
      go_wp2_with fail
      go_ret
      exact ⟨_, rfl, HF.out, HB.out⟩
end Go.Proofs.Ytgajmiibkakobaa
