import Derived.Test.YtlajcaofpmjdlaaApX
namespace Go.Proofs.Ytlajcaofpmjdlaa
open Go.RowKit Go.PlainAid
set_option linter.unusedVariables false
set_option linter.unusedSimpArgs false
/-- A pair's parts. -/
def PAL (L pb p s rb : Nat) (S : SV) (fv lv lent : Value) (n : Nat) (zs : List UInt8) (x : DV) (r : RV) : List (Ent L) := boxE L pb (S.cs (.pointer (some ⟨p, 0, none⟩)) (.pointer (some ⟨rb, 0, none⟩)) lent n) 66 :: (S.rows L ++ (S.data L ++ [dmE L p s x, rdE L rb fv lv r, datE L (lent, zs)]))
theorem PAL_iff {L pb p s rb : Nat} {S : SV} {fv lv lent : Value} {n : Nat} {zs : List UInt8} {x : DV} {r : RV} {R : List (Ent L)} {w : World} : PA L pb p s rb S fv lv lent n zs x r R w ↔ Held (PAL L pb p s rb S fv lv lent n zs x r ++ R) w := by
  have e : PAL L pb p s rb S fv lv lent n zs x r ++ R = boxE L pb (S.cs (.pointer (some ⟨p, 0, none⟩)) (.pointer (some ⟨rb, 0, none⟩)) lent n) 66 :: (S.rows L ++ (S.data L ++ (dmE L p s x :: rdE L rb fv lv r :: datE L (lent, zs) :: R))) := by
    simp [PAL, List.append_assoc]
  rw [e]
  rfl
/-- A pair and its parts, or none. -/
def PX (L : Nat) (v : Value) (i : Nat) (es : List (Ent L)) : Prop := (v = .pointer none ∧ es = []) ∨ ∃ (pb p s rb : Nat) (S : SV) (fv lv lent : Value) (n : Nat) (zs : List UInt8) (x : DV) (r : RV), v = .pointer (some ⟨pb, 0, none⟩) ∧ n ≤ i ∧ S.Ok n ∧ AgD x r ∧ r.log.length ≤ i ∧ es = PAL L pb p s rb S fv lv lent n zs x r
section
variable {L pb i j : Nat} {v : Value} {es R : List (Ent L)} {w : World}
theorem PX.more (h : PX L v i es) (hij : i ≤ j) : PX L v j es := by
  rcases h with h | ⟨pb, p, s, rb, S, fv, lv, lent, n, zs, x, r, h1, h2, h3, h4, h5, h6⟩
  · exact Or.inl h
  · exact Or.inr ⟨pb, p, s, rb, S, fv, lv, lent, n, zs, x, r, h1, by omega, h3, h4, by omega, h6⟩
theorem px_made (k : Int) (w : World) (hL : L ≤ w.heap.size) (hR : Held R w) : Calls Try.prog 30 #[.int .i64 k] w fun e w' => ∃ v es, e = .returned (.tuple #[v, .bool true]) ∧ PX L v 0 es ∧ Held (es ++ R) w' ∧ Below w.heap.size w w' := by
  by_cases h : k < 1 ∨ 65536 < k
  · refine (made_no k w h).mono ?_
    rintro e w' ⟨rfl, rfl⟩
    exact ⟨_, [], rfl, Or.inl ⟨rfl, rfl⟩, hR, Below.refl _ _⟩
  · obtain ⟨n, hn⟩ : ∃ n : Nat, k = (n : Int) := ⟨k.toNat, by omega⟩
    subst hn
    refine (made_yes (L := L) (R := R) n w (by omega) hR hL).mono ?_
    rintro e w' ⟨pb, p, s, rb, rfl, hp, hb⟩
    exact ⟨_, _, rfl, Or.inr ⟨pb, p, s, rb, sv0, _, _, _, 0, [], _, _, rfl, Nat.le_refl _, sv0_ok 0, AgD.new n, Nat.le_refl _, rfl⟩, PAL_iff.1 hp, hb⟩
theorem px_taken {vo : Option Addr} {vn vc : Nat} {bs : List UInt8} (w : World) (hb : By w (.slice vo vn vc) bs) (hs : vn ≤ 4194304) (hL : L ≤ w.heap.size) (hR : Held R w) : Calls Try.prog 31 #[.slice vo vn vc] w fun e w' => ∃ v es, e = .returned (.tuple #[v, .bool true]) ∧ PX L v 0 es ∧ Held (es ++ R) w' ∧ Below w.heap.size w w' := by
  by_cases h : badImg vn
  · refine (taken_no w hb hs h).mono ?_
    rintro e w' ⟨rfl, hb'⟩
    exact ⟨_, [], rfl, Or.inl ⟨rfl, rfl⟩, hR.more hb', hb'⟩
  · have hv : vn = vn / 512 * 512 ∧ 1 ≤ vn / 512 := by unfold badImg at h; omega
    have hbl : bs.length = vn := by obtain ⟨_, _, _, e, e2, _⟩ := id hb; cases e; exact e2
    refine (taken_yes (L := L) (R := R) w hb hs hv.1 hv.2 hR hL).mono ?_
    rintro e w' ⟨pb, p, s, rb, fv, rfl, hp, hb'⟩
    exact ⟨_, _, rfl, Or.inr ⟨pb, p, s, rb, sv0, _, _, _, 0, [], _, _, rfl, Nat.le_refl _, sv0_ok 0, AgD.fromI _ bs (by rw [hbl]; exact hv.1), Nat.le_refl _, rfl⟩, PAL_iff.1 hp, hb'⟩
/-- tells, of every kind. -/
theorem telc_all {p s rb : Nat} {W : World} (o : OpV) (h5 : 5 ≤ o.kind) (h11 : o.kind ≤ 11) (hby : ∀ w, Below L W w → By w o.b o.bs) (hs : o.bs.length ≤ 4194304) : TelC L pb p s rb R W o := by
  by_cases h : o.kind ≤ 10
  · exact telc_any o h5 h
  · intro S fv lv lent n zs x r w hb hp hk hn ha hx
    obtain ⟨k, who, oN, oM, b, bs⟩ := o
    have e : k = 11 := by have h1 : k ≤ 11 := h11; have h2 : ¬ k ≤ 10 := h; omega
    subst e
    have hB : By w b bs := hby w hb
    obtain ⟨vo, vn, vc, e1, e2, _⟩ := id hB
    subst e1
    exact tells_from who oN oM w hp hk hB (by have : bs.length ≤ 4194304 := hs; omega)
theorem px_play {o : OpV} {v1 : Value} (w : World) (h : PX L (.pointer (some ⟨pb, 0, none⟩)) i es) (hH : Held (es ++ R) w) (hS : ∀ w', Below L w w' → Held R w' → Scr L R w' v1 [o]) (ho : o.Ok) (hby : ∀ w', Below L w w' → By w' o.b o.bs) (hs : o.bs.length ≤ 4194304) (hi : i ≤ 900) :
    Calls Try.prog 32 #[.pointer (some ⟨pb, 0, none⟩), v1, .int .i64 5, .int .i64 11] w fun e w' => e = .returned (.bool true) ∧ ∃ es', PX L (.pointer (some ⟨pb, 0, none⟩)) (i + 1) es' ∧ Held (es' ++ R) w' ∧ Below L w w' := by
  rcases h with ⟨e, _⟩ | ⟨pb', p, s, rb, S, fv, lv, lent, n, zs, x, r, h1, h2, h3, h4, h5, h6⟩
  · cases e
  · cases h1
    subst h6
    refine (plays_any (os := [o]) 5 11 w i i ⟨S, fv, lv, lent, n, zs, x, r, h2, h3, h4, h5, PAL_iff.2 hH, Below.refl _ _⟩ hS (fun o' ho' => by rw [List.mem_singleton.1 ho']; exact ho) (fun o' ho' k1 k2 => by rw [List.mem_singleton.1 ho'] at k1 k2 ⊢; exact telc_all o k1 k2 hby hs) (by simp; omega) (by simp; omega)).mono ?_
    rintro e w' ⟨rfl, S', fv', lv', lent', n', zs', x', r', k2, k3, k4, k5, k6, k7⟩
    exact ⟨rfl, _, Or.inr ⟨pb, p, s, rb, S', fv', lv', lent', n', zs', x', r', rfl, k2, k3, k4, k5, rfl⟩, PAL_iff.1 k6, k7⟩
theorem px_apart (w : World) (h : PX L (.pointer (some ⟨pb, 0, none⟩)) i es) (hH : Held (es ++ R) w) :
    Calls Try.prog 33 #[.pointer (some ⟨pb, 2, none⟩)] w fun e w' => e = .returned (.bool true) ∧ Below L w w' ∧ Held R w' := by
  rcases h with ⟨e, _⟩ | ⟨pb', p, s, rb, S, fv, lv, lent, n, zs, x, r, h1, h2, h3, h4, h5, h6⟩
  · cases e
  · cases h1
    subst h6
    have hp : PA L pb p s rb S fv lv lent n zs x r R w := PAL_iff.2 hH
    refine (apart_any w hp h3).mono ?_
    rintro e w' ⟨k1, k2, k3⟩
    exact ⟨k1, k2, k3.drop.drop.drop⟩
end
/-- One step of a script, as a script. -/
theorem scr_one {L : Nat} {R : List (Ent L)} {w : World} {g off N cap : Nat} {os : List OpV} {i : Nat} {o : OpV} (h : Scr L R w (.slice (some ⟨g, off, none⟩) N cap) os) (ho : os[i]? = some o) : Scr L R w (.slice (some ⟨g, off + i * 5, none⟩) 1 (cap - i)) [o] := by
  refine ⟨⟨_, _, rfl⟩, fun j o' hj => ?_, fun o' ho' => ?_⟩
  · cases j with
    | zero =>
      cases hj
      obtain ⟨g', f', c', e, k⟩ := h.cl i o ho
      cases e
      refine ⟨g, off + i * 5, cap - i, rfl, ?_⟩
      simpa using k
    | succ j => simp at hj
  · rw [List.mem_singleton.1 ho']
    exact h.by' o (List.mem_of_getElem? ho)
theorem slice_step (g off N cap i : Nat) (hi : i < N) (hc : N ≤ cap) (w : World) : (Instr.sliceAt 51 (.slice (some ⟨g, off, none⟩) N cap) (some (.int .i64 (i : Int))) (some (.int .i64 ((i : Int) + 1))) none).run Try.prog w = .ok (.slice (some ⟨g, off + i * 5, none⟩) 1 (cap - i)) w := by
  have hs : (Try.prog.info? 58).map (·.size) = some 5 := by kernel_rfl
  have hie : ∃ i0, Try.prog.info? 58 = some i0 ∧ i0.size = 5 := by
    cases h : Try.prog.info? 58 with
    | none => rw [h] at hs; cases hs
    | some i => rw [h] at hs; exact ⟨i, rfl, by simpa using hs⟩
  obtain ⟨i0, hi0, hz⟩ := hie
  have hu : Try.prog.underlying 51 = some (.slice 58) := Try.underlying51
  have he : Try.prog.elem 51 = 58 := by simp [Program.elem, hu]
  have hu2 : Try.prog.underlying 51 = some (.slice (Try.prog.elem 51)) := by rw [he]; exact hu
  have h3 : ¬ cap = i := by omega
  have h4 : ((i : Int) + 1 - (i : Int)).toNat = 1 := by omega
  have h5 : ((i : Int) + 1).toNat - i = 1 := by omega
  rw [run_sliceAt_slice _ _ _ _ _ _ hu2, run_slice_lh _ _ _ _ _ hu2 .i64 .i64 (i : Int) ((i : Int) + 1) (by omega) (by omega) (by omega), he]
  simp only [sizeOf, typeInfo, hi0, sliced]
  simp [hi0, Result.andThen, hz, h3, addr_add, h4, h5]
  try omega
end Go.Proofs.Ytlajcaofpmjdlaa
