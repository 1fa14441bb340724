import Derived.Test.YtjpdcahodmomgaaJn34b
import Derived.Test.YtjpdcahodmomgaaJn18
namespace Go.Proofs.Ytjpdcahodmomgaa
open Go.RowKit Go.PlainAid
set_option linter.unusedVariables false
set_option linter.unusedSimpArgs false
set_option maxRecDepth 100000
set_option maxHeartbeats 3200000
def deskG (L kb p s sb jb : Nat) (x : DV) (y : JV) (iv : Value) (left torn : Int) (hv : Value) (hs : List (Value × List UInt8)) (next : Nat) (R : List (Ent L)) : List (Ent L) := boxE L kb (deskC p (.pointer (some ⟨jb, 0, none⟩)) iv true left torn hv next false sb) 64 :: (haveE L hv hs ++ (imE L iv x :: (y.es L jb ++ (dmE L p s x :: R))))
/-- Program and document have the same. -/
structure DOk (p : Nat) (x : DV) (y : JV) (hv : Value) (hs : List (Value × List UInt8)) (next : Nat) : Prop where
  ep : y.p = p
  recs : y.recs.map Prod.snd = hs.map Prod.snd
  enx : y.next = next
  fin : y.fin = x.n
  le : next ≤ x.n
  n1 : 1 ≤ x.n
  n2 : x.n ≤ 1000
  l8 : ∀ d ∈ y.recs, d.2.length ≤ 8192
  ehv : ∃ ao c, hv = Value.slice ao hs.length c
  hl : hs.length ≤ next
theorem DOk.len {p : Nat} {x : DV} {y : JV} {hv : Value} {hs : List (Value × List UInt8)} {next : Nat} (h : DOk p x y hv hs next) : y.recs.length = hs.length := by
  have := congrArg List.length h.recs
  simpa using this
section
variable {L kb p s sb jb : Nat} {x : DV} {y : JV} {iv : Value} {left torn : Int} {hv : Value} {hs : List (Value × List UInt8)} {next : Nat} {R : List (Ent L)} {w : World}
theorem desk_j (h : Held (deskG L kb p s sb jb x y iv left torn hv hs next R) w) : Held (y.es L jb ++ (dmE L p s x :: (boxE L kb (deskC p (.pointer (some ⟨jb, 0, none⟩)) iv true left torn hv next false sb) 64 :: (haveE L hv hs ++ (imE L iv x :: R))))) w := by
  refine h.perm ?_
  have e := List.Perm.append_right R (List.perm_append_comm (l₁ := boxE L kb (deskC p (.pointer (some ⟨jb, 0, none⟩)) iv true left torn hv next false sb) 64 :: (haveE L hv hs ++ [imE L iv x])) (l₂ := y.es L jb ++ [dmE L p s x]))
  simpa [deskG, List.append_assoc] using e
theorem desk_box (h : Held (deskG L kb p s sb jb x y iv left torn hv hs next R) w) : Blk w kb (deskC p (.pointer (some ⟨jb, 0, none⟩)) iv true left torn hv next false sb) 64 := Held.boxB h
theorem desk_im (h : Held (deskG L kb p s sb jb x y iv left torn hv hs next R) w) : w.ownsRow L 5 1 iv (x.n * 512) ((imgL x).map B) := h.all (imE L iv x) (by simp [deskG])
theorem desk_dm (h : Held (deskG L kb p s sb jb x y iv left torn hv hs next R) w) : DM L p s x w := h.all (dmE L p s x) (by simp [deskG])
theorem desk_lo (h : Held (deskG L kb p s sb jb x y iv left torn hv hs next R) w) : L ≤ w.heap.size := Held.lowL (e := boxE L kb (deskC p (.pointer (some ⟨jb, 0, none⟩)) iv true left torn hv next false sb) 64) h (k := kb) rfl
theorem desk_rows (h : Held (deskG L kb p s sb jb x y iv left torn hv hs next R) w) : Rows w hv (hs.map Prod.snd) := by
  have ht : Tail w L 38 hv hs.length (hs.map Prod.fst) := h.all (tailE L 38 hv hs.length (hs.map Prod.fst)) (by simp [deskG, haveE])
  obtain ⟨ao, c, e⟩ := tail_val ht
  refine ⟨ao, c, by rw [e, List.length_map], fun i bs hi => ?_⟩
  rw [List.getElem?_map] at hi
  cases hd : hs[i]? with
  | none => rw [hd] at hi; cases hi
  | some d =>
    rw [hd] at hi
    cases hi
    obtain ⟨g, off, cap, e3, e4⟩ := tail_at ht (i := i) (u := d.1) (by rw [List.getElem?_map, hd]; rfl)
    have hb : By w d.1 d.2 ∧ _ := h.all (byE L d) (by
      have := List.mem_map_of_mem (f := byE L) (List.mem_of_getElem? hd)
      simp [deskG, haveE]
      exact Or.inr (Or.inr (Or.inl ⟨d.1, d.2, List.mem_of_getElem? hd, rfl⟩)))
    obtain ⟨uo, n, uc, e5, _⟩ := id hb.1
    rw [e3] at e
    cases e
    exact ⟨g, off, uo, n, uc, rfl, by rw [← e5]; exact e4, by rw [← e5]; exact hb.1⟩
theorem looks_any (h : Held (deskG L kb p s sb jb x y iv left torn hv hs next R) w) (hd : DOk p x y hv hs next) : Calls Try.prog 25 #[.pointer (some ⟨kb, 0, none⟩)] w fun e w' => e = .returned (.bool true) ∧ ∃ q, w' = w.drewN q := by
  obtain ⟨ho, hc, hve⟩ := hd.ehv
  obtain ⟨ig, ic, hie, _, _⟩ := im_lit (desk_im h) hd.n1
  have hB := desk_box h
  have c1 : w.cell? ⟨kb, 1, none⟩ = some (.pointer (some ⟨jb, 0, none⟩)) := hB.cell 1
  have c2 : w.cell? ⟨kb, 2, none⟩ = some (.slice (some ⟨ig, 0, none⟩) (x.n * 512) ic) := by rw [← hie]; exact hB.cell 2
  have c6 : w.cell? ⟨kb, 6, none⟩ = some (.slice ho hs.length hc) := by rw [← hve]; exact hB.cell 6
  have c7 : w.cell? ⟨kb, 7, none⟩ = some (.int .i64 (next : Int)) := hB.cell 7
  have c8 : w.cell? ⟨kb, 8, none⟩ = some (.bool false) := hB.cell 8
  have hj := desk_j h
  have hlen := hd.len
  have hn2 := hd.n2
  have hle := hd.le
  have hl := hd.hl
  have HLN : Hid (∀ q, Calls Try.prog 31 #[.pointer (some ⟨jb, 0, none⟩)] (w.drewN q) fun e w' => e = .returned (.int .i64 (hs.length : Int)) ∧ w' = w.drewN q) := fun q => by
    rw [← hlen]; exact len_any (w.drewN q) (hj.drewN q) (by omega)
  have HRM : Hid (∀ q, Calls Try.prog 18 #[.pointer (some ⟨jb, 0, none⟩)] (w.drewN q) fun e w' => e = .returned (.int .i64 ((x.n : Int) - (next : Int))) ∧ ∃ m, w' = (w.drewN q).drewN m) := fun q => by
    have h9 := room_any (w.drewN q) (hj.drewN q) (by rw [hd.enx, hd.fin]; exact hle) (by rw [hd.fin]; omega)
    rw [hd.enx, hd.fin, show ((x.n - next : Nat) : Int) = (x.n : Int) - (next : Int) by omega] at h9
    exact h9
  have HDD : Hid (∀ q, Calls Try.prog 43 #[.pointer (some ⟨jb, 0, none⟩)] (w.drewN q) fun e w' => e = .returned (.bool false) ∧ w' = w.drewN q) := fun q => dead_any (w.drewN q) (hj.drewN q)
  have hq : Int.tdiv ((x.n * 512 : Nat) : Int) 512 = (x.n : Int) := by rw [Int.tdiv_eq_ediv_of_nonneg (by omega)]; omega
  obtain ⟨N, hN⟩ : ∃ N, N = x.n := ⟨_, rfl⟩
  obtain ⟨len, hll⟩ : ∃ l, l = hs.length := ⟨_, rfl⟩
  rw [← hN] at c2 HRM hq hn2 hle
  rw [← hll] at c6 HLN hl
  clear h hd hve hie hB hj hlen hN hll
  go_enter Try.func25, Try.ntmps25
  go_wp2_with fail
  go_quiet (fail)
  have HX : Hid (∃ q, w.drewN nq = w.drewN q) := ⟨nq, rfl⟩
  have HLN2 : Hid (∀ q, Calls Try.prog 31 #[.pointer (some ⟨jb, 0, none⟩)] ((w.drewN nq).drewN q) fun e w' => e = .returned (.int .i64 (len : Int)) ∧ w' = (w.drewN nq).drewN q) := fun q => by rw [World.drewN_drewN]; exact HLN.out _
  have HRM2 : Hid (∀ q, Calls Try.prog 18 #[.pointer (some ⟨jb, 0, none⟩)] ((w.drewN nq).drewN q) fun e w' => e = .returned (.int .i64 ((N : Int) - (next : Int))) ∧ ∃ m, w' = ((w.drewN nq).drewN q).drewN m) := fun q => by rw [World.drewN_drewN]; exact HRM.out _
  have HDD2 : Hid (∀ q, Calls Try.prog 43 #[.pointer (some ⟨jb, 0, none⟩)] ((w.drewN nq).drewN q) fun e w' => e = .returned (.bool false) ∧ w' = (w.drewN nq).drewN q) := fun q => by rw [World.drewN_drewN]; exact HDD.out _
  have e1 : (w.drewN nq).cell? ⟨kb, 1, none⟩ = some (.pointer (some ⟨jb, 0, none⟩)) := c1
  have e8 : (w.drewN nq).cell? ⟨kb, 8, none⟩ = some (.bool false) := c8
  generalize w.drewN nq = X at HX HLN2 HRM2 HDD2 e1 e8 ⊢
  clear c1 c2 c6 c7 c8 HLN HRM HDD hq
  obtain ⟨rm, hrm⟩ : ∃ rm : Int, rm = (N : Int) - (next : Int) := ⟨_, rfl⟩
  go_wp2_with fail
  try rw [← hrm] at HRM2 ⊢
  clear hrm
  go_quiet (first | (go_at_call 31; refine Calls.quiet_of_same (HLN2.out _)) | (go_at_call 18; refine Calls.quiet_of (HRM2.out _)) | (go_at_call 43; refine Calls.quiet_of_same (HDD2.out _)))
  have HF : Hid (∃ q, X.drewN nq = w.drewN q) := by
    obtain ⟨q, e⟩ := HX.out
    exact ⟨q + nq, by rw [e, World.drewN_drewN]⟩
  generalize X.drewN nq = Y at HF ⊢
  clear HX HLN2 HRM2 HDD2 e1 e8
  go_wp2_with fail
  go_ret
  exact ⟨rfl, HF.out⟩
end
end Go.Proofs.Ytjpdcahodmomgaa
