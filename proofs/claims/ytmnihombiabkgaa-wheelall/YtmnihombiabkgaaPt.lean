import Derived.Test.YtmnihombiabkgaaHo
namespace Go.Proofs.Ytmnihombiabkgaa
open Go.RowKit Go.PlainAid
set_option linter.unusedVariables false
set_option linter.unusedSimpArgs false
def fillTo (z : Tm) (k : Nat) (zs : List Tm) : List Tm := List.replicate k z ++ zs.drop k
theorem fillTo_zero (z : Tm) (zs : List Tm) : fillTo z 0 zs = zs := by simp [fillTo]
theorem fillTo_set {z : Tm} {k : Nat} {zs : List Tm} (h : k < zs.length) : (fillTo z k zs).set k z = fillTo z (k + 1) zs := by
  unfold fillTo
  rw [List.set_append_right _ _ (by simp), List.length_replicate, Nat.sub_self, List.drop_eq_getElem_cons h, List.set_cons_zero, List.replicate_succ']
  simp
theorem fillTo_all {z : Tm} {zs : List Tm} {n : Nat} (h : zs.length = n) : fillTo z n zs = List.replicate n z := by
  unfold fillTo
  rw [List.drop_of_length_le (by omega)]
  simp
theorem fillTo_len {z : Tm} {k : Nat} {zs : List Tm} (h : k ≤ zs.length) : (fillTo z k zs).length = zs.length := by simp [fillTo]; omega
set_option maxRecDepth 100000 in
set_option maxHeartbeats 1600000 in
theorem fill_any {L n : Nat} {l : Value} {zs : List Tm} {m : Int} (w : World) (hl : w.ownsRow L 50 4 l n (flatT zs)) (hzl : zs.length = n) (hn : n ≤ 1000000) :
    Calls Try.prog 56 #[l, .int .i64 m] w fun r w' => r = .returned (.tuple #[]) ∧ w'.ownsRow L 50 4 l n (fullT n m) ∧ Chg (fun k => l.ownBlock = some k) w w' := by
  obtain ⟨lo, lc, hll, _⟩ := own_slice hl
  have HL : Hid _ := hl
  clear hl
  subst hll
  go_enter Try.func56, Try.ntmps56
  go_wp2
  go_loopw [4] (fun i wr => ∃ k : Nat, k ≤ n ∧ i = .int .i64 k ∧ Hid (wr.ownsRow L 50 4 (.slice lo n lc) n (flatT (fillTo (mk9 m) k zs))) ∧ Hid (Chg (fun k => (Value.slice lo n lc).ownBlock = some k) w wr)) (fun i _ => n - (intOf i).toNat)
  case atStart => exact ⟨0, Nat.zero_le _, rfl, by rw [fillTo_zero]; exact HL, Chg.refl _ _⟩
  case round =>
    clear HL
    obtain ⟨k, hk, rfl, HV, HB⟩ := hrel
    by_cases hlt : k < n
    · obtain ⟨g, c, hv, _, _, _⟩ := own_some HV.out (by omega)
      cases hv
      obtain ⟨hs, hfz, hch⟩ := own_set4 HV.out (by rw [fillTo_len (by omega), hzl]) hlt (mk9 m)
      rw [fillTo_set (by omega)] at hs
      obtain ⟨y, hy⟩ : ∃ y, (fillTo (mk9 m) k zs)[k]? = some y := ⟨(fillTo (mk9 m) k zs)[k]'(by rw [fillTo_len (by omega), hzl]; exact hlt), List.getElem?_eq_getElem _⟩
      obtain ⟨y0, y1, y2, y3⟩ := cellT HV.out hy
      have f0 := hfz (k * 4)
      have f1 := hfz (k * 4 + 1)
      have f2 := hfz (k * 4 + 2)
      have f3 := hfz (k * 4 + 3)
      have HS : Hid _ := hs
      have HC : Hid (Chg (fun k => (Value.slice (some ⟨g, 0, none⟩) n lc).ownBlock = some k) w _) := HB.out.trans hch (fun j _ e => by rw [e]; rfl)
      clear hs HV HB hfz hy hch
      go_wp2
      go_roundw
      case rel => exact ⟨k + 1, by omega, by go_num, HS, HC⟩
      case measure => simp [intOf]; omega
    · obtain rfl : k = n := by omega
      go_wp2
      go_end0
      refine ⟨rfl, ?_, HB.out⟩
      have := HV.out
      rw [fillTo_all hzl] at this
      exact this
set_option maxRecDepth 100000 in
set_option maxHeartbeats 1600000 in
/-- An answer is kept: written over at once, and grown. -/
theorem put_early {L kb n : Nat} {vI vM l : Value} {e1 : List Ent} {zs : List Tm} (w : World) (hK : KE L kb vI vM e1 e1 w) (hl : w.ownsRow L 50 4 l n (flatT zs)) (hzl : zs.length = n) (hap : ∀ g, l.ownBlock = some g → ¬ KB kb vI vM e1 g) (hn : n ≤ 100000) (hel : e1.length ≤ 1000000000000) :
    Calls Try.prog 41 #[.pointer (some ⟨kb, 0, none⟩), l] w fun r w' => r = .returned (.tuple #[]) ∧ ∃ v1 v2 es, KE L kb v1 v2 es es w' ∧ es.length ≤ e1.length + 18 ∧ Chg (fun k => KB kb vI vM e1 k ∨ l.ownBlock = some k) w w' ∧ ∀ k, KB kb v1 v2 es k → KB kb vI vM e1 k ∨ l.ownBlock = some k ∨ w.heap.size ≤ k := by
  have hf := fill_any (m := (e1.length : Int)) w hl hzl (by omega)
  obtain ⟨mo, mc, hmm, _⟩ := own_slice hK.xm
  obtain ⟨lo, lc, hll, _⟩ := own_slice hl
  have c0 : w.cell? ⟨kb, 0, none⟩ = some (.bool false) := hK.blk.cell 0
  have c3 : w.cell? ⟨kb, 3, none⟩ = some (.slice mo e1.length mc) := by rw [← hmm]; exact hK.blk.cell 3
  have HK : Hid _ := hK
  have HAP : Hid _ := hap
  have HF : Hid _ := hf
  clear hl hK hap hf hzl
  subst hll
  go_enter Try.func41, Try.ntmps41
  go_wp2_with fail
  refine Calls.mono HF.out ?_
  rintro e w1 ⟨rfl, h1, hc1⟩
  have hK1 : KE L kb vI vM e1 e1 w1 := HK.out.frame hc1 (fun k hk e => HAP.out k e hk)
  have HHD : Hid _ := hold_any w1 hK1 h1 (fun x hx g e q => HAP.out g e (.inr (.inr (.inr ⟨x, hx, q⟩)))) hn (by omega) (by omega) hel
  have HC1 : Hid _ := hc1
  clear h1 hc1 c0 c3 hK1 HF
  go_wp2_with fail
  refine Calls.mono HHD.out ?_
  rintro e w2 ⟨rfl, v1, v2, far, es, hH, hle, _⟩
  have HR : Hid (KE L kb v1 v2 es es w2 ∧ es.length ≤ e1.length + 18 ∧ Chg (fun k => KB kb vI vM e1 k ∨ (Value.slice lo n lc).ownBlock = some k) w w2 ∧ ∀ k, KB kb v1 v2 es k → KB kb vI vM e1 k ∨ (Value.slice lo n lc).ownBlock = some k ∨ w.heap.size ≤ k) := ⟨hH.ke, hle, (HC1.out.mono (fun j _ e => .inr e)).trans (hH.chg.mono (B := fun k => KB kb vI vM e1 k ∨ (Value.slice lo n lc).ownBlock = some k) (fun k _ h => by
    rcases h with q | q | q | q
    · exact .inl (.inl q)
    · exact .inl (.inr (.inl q))
    · exact .inl (.inr (.inr (.inl q)))
    · exact .inr q)) (fun j _ e => e), fun k hk => by
    have hsz := HC1.out.size
    rcases hk with q | q | q | ⟨x, hx, q⟩
    · exact .inl (.inl q)
    · rcases hH.ni k q with q | q
      · exact .inl (.inr (.inl q))
      · exact .inr (.inr (by omega))
    · rcases hH.nm k q with q | q
      · exact .inl (.inr (.inr (.inl q)))
      · exact .inr (.inr (by omega))
    · rcases hH.ne x hx k q with ⟨x0, h0, q⟩ | q | q
      · exact .inl (.inr (.inr (.inr ⟨x0, h0, q⟩)))
      · exact .inr (.inl q)
      · exact .inr (.inr (by omega))⟩
  clear HHD hH
  go_wp2_with fail
  go_end0
  exact ⟨rfl, v1, v2, es, HR.out⟩
end Go.Proofs.Ytmnihombiabkgaa
