import Derived.Test.YtcjgicfmfjomgaaSp1
namespace Go.Proofs.Ytcjgicfmfjomgaa
open Go.RowKit Go.PlainAid Go.MapKept
set_option linter.unusedVariables false
set_option linter.unusedSimpArgs false
theorem Chg.undrew {A : Nat → Prop} {w w' : World} (h : Chg A w.drew w') : Chg A w w' := ⟨h.os, h.tape, h.output, h.size, h.block⟩
theorem Below.undrew {L : Nat} {w w' : World} (h : Below L w.drew w') : Below L w w' := ⟨h.os, h.tape, h.output, h.size, h.block⟩
theorem LStp.undrew {lb cb mb : Nat} {uv uv' : Value} {x x' : LV} {w w' : World} (h : LStp lb cb mb uv uv' x x' w.drew w') : LStp lb cb mb uv uv' x x' w w' := ⟨Go.Proofs.Ytcjgicfmfjomgaa.Chg.undrew h.1, h.2⟩
theorem isz5b : (Try.prog.info? 5).map (·.size) = some 1 := by kernel_rfl
theorem endX_self (S : Ln) (i : Nat) : S.endX i (S.e i).uv (S.e i).x = S := by
  unfold Ln.endX Ln.setE
  cases S
  simp only
  congr 1
  funext k
  split
  · rename_i h
    rw [h]
  · rfl
section
variable {S : Ln} {win : Nat → Nat} {n t : Nat}
theorem LInv.segLen (h : LInv S win n t) {i : Nat} (hi : i < 2) {g o : Nat} {q k : Int} {s : List UInt8} (hs : SegOk ((S.e i).inn.map Dv.s) g o q k s) : s.length ≤ 4000 := by
  obtain ⟨a, ha⟩ := h.d i hi
  obtain ⟨_, _, _, _, h5, h6⟩ := hs
  by_cases hq : q = 0
  · rw [h5 hq]; simp
  · exact ha.ln _ (List.mem_of_getElem? (h6 hq))
end
section
variable {L xb : Nat} {S : Ln} {col : Nat → Nat} {w w7 : World}
/-- One more was handed in. -/
theorem LNM.addIn (h : LNM L xb S col w) {i : Nat} (hi : i < 2) (hb : Below w.heap.size w w7) {d : Dv} (hd : w7.ownsRow w.heap.size 5 1 d.v d.s.length (d.s.map B)) (hl : (S.e i).inn.length ≤ 1000) :
    ∃ ao8 c8 w8, (∀ ty, (Builtin.append_ #[36, 36] ty #[(S.e i).iv, .slice (some ⟨w7.heap.size, 0, none⟩) 1 1]).run Try.prog (w7.alloc (.cells #[d.v] 41)) = .ok (.slice ao8 ((S.e i).inn.length + 1) c8) w8) ∧ w8.cell? ⟨xb, 2 + i, none⟩ = some (S.e i).iv ∧ w8.frozen? ⟨xb, 2 + i, none⟩ = false ∧ (∀ k, k < w.heap.size → 8 ≤ col k → w8.heap[k]? = w.heap[k]?) ∧
      ∃ col', LNM L xb (S.inI i (.slice ao8 ((S.e i).inn.length + 1) c8) ((S.e i).inn ++ [d])) col' (w8.setCell ⟨xb, 2 + i, none⟩ (.slice ao8 ((S.e i).inn.length + 1) c8)) ∧ (∀ k, k < w.heap.size → col' k = col k) ∧ Chg (fun k => k = xb ∨ (S.e i).iv.ownBlock = some k) w (w8.setCell ⟨xb, 2 + i, none⟩ (.slice ao8 ((S.e i).inn.length + 1) c8)) := by
  obtain ⟨col7, hcol7⟩ : ∃ col7 : Nat → Nat, col7 = fun k => if k < w.heap.size then col k else 5 := ⟨_, rfl⟩
  have hlow7 : ∀ k, k < w.heap.size → col7 k = col k := fun k hk => by rw [hcol7]; exact if_pos hk
  have h7 := (h.recol hlow7).more hb
  have hL := h.hL
  obtain ⟨dao, dc, hdv, _⟩ := own_slice hd
  obtain ⟨v8, w8, hr8, ho8, hg8⟩ := app_dv d (by rw [hdv]; rfl) (h7.em i hi).ir h7.hL (by omega)
  obtain ⟨ao8, c8, hv8, _⟩ := own_slice ho8
  rw [List.length_append] at hv8
  subst hv8
  have hct := hg8.chg
  obtain ⟨col8, hL8, hlow8, hB8, hch8⟩ := h7.setIn hi (v6 := .slice ao8 ((S.e i).inn.length + 1) c8) (l := (S.e i).inn ++ [d]) hct ho8 hg8.at' (fun e he => by
    rcases List.mem_append.1 he with q | q
    · exact (h7.em i hi).id e q
    · rw [List.mem_singleton.1 q]; exact ownsRow_mono hd hL) (fun e he k hk => by
    rcases List.mem_append.1 he with q | q
    · exact (h7.ec i hi).cd e q k hk
    · rw [List.mem_singleton.1 q] at hk
      have h1 := (ownsRow_lt hd hk).1
      rw [hcol7]
      exact if_neg (by omega))
  refine ⟨ao8, c8, w8, hr8, ?_, hB8.frozen (2 + i), fun k hk h8 => ?_, col8, hL8, fun k hk => (hlow8 k (Nat.lt_of_lt_of_le hk hb.size)).trans (hlow7 k hk), (Chg.ofBelow _ hb).trans hch8 (fun _ _ e => e)⟩
  · rcases (by omega : i = 0 ∨ i = 1) with rfl | rfl
    · exact hB8.cell 2
    · exact hB8.cell 3
  · refine (hct.block k (Nat.lt_of_lt_of_le hk hb.size) (fun e => ?_)).trans (hb.block k hk)
    have h1 := (h7.ec i hi).ci k e
    rw [hlow7 k hk] at h1
    omega
end
end Go.Proofs.Ytcjgicfmfjomgaa
