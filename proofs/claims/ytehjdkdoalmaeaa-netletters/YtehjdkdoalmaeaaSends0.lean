import Derived.Test.YtehjdkdoalmaeaaPair6
namespace Go.Proofs.Ytehjdkdoalmaeaa
open Go.RowKit Go.PlainAid
set_option linter.unusedVariables false
set_option linter.unusedSimpArgs false
section
variable {L pb hbn hbr room : Nat} {s : PS} {w w2 : World}
/-- What was lent is written over. -/
theorem PInv.relent (h : PInv L pb hbn hbr room s w) {lent' : List UInt8} (hT : w2.ownsRow L 5 1 s.vl lent'.length (lent'.map B)) (hg : ∀ k, k < w.heap.size → s.vl.ownBlock ≠ some k → w2.heap[k]? = w.heap[k]?) : PInv L pb hbn hbr room { s with lent := lent' } w2 := by
  have hp : s.side.Perm (s.vl :: ([s.vb, s.vm, s.vf, s.vw] ++ (s.ks.map Dat.d ++ s.ls.map Dat.d ++ s.fl.map Dat.d))) := perm_pick2 s.vb s.vm s.vl s.vf s.vw (s.ks.map Dat.d ++ s.ls.map Dat.d ++ s.fl.map Dat.d)
  have hO : ∀ y ∈ [s.vb, s.vm, s.vf, s.vw] ++ (s.ks.map Dat.d ++ s.ls.map Dat.d ++ s.fl.map Dat.d), ∀ g, y.ownBlock = some g → w2.heap[g]? = w.heap[g]? := fun y hy g hg2 => by
    have hm := h.mS y (hp.mem_iff.2 (List.mem_cons.2 (Or.inr hy)))
    exact hg g (h.blt y hm g hg2) (fun e => h.sideOne hp g e y hy hg2)
  have hpb : s.vl.ownBlock ≠ some pb := fun e => (h.notBox s.vl (h.mS s.vl (hp.mem_iff.2 (by simp))) pb e).1 rfl
  obtain ⟨hb, hr⟩ := h.bagsKept (w' := w2) fun k hk h1 h2 => hg k hk fun e => h2 (mem_blocks.2 ⟨s.vl, hp.mem_iff.2 (by simp), e⟩)
  exact ⟨(hg pb h.pblt hpb).trans h.box, hb, hr, tail_same h.bytes (hO _ (by simp)), tail_same h.marks (hO _ (by simp)), fun x hx => ownsRow_same (h.kept x hx) (hO _ (by simp only [List.mem_append, List.mem_map]; exact Or.inr (Or.inl (Or.inl ⟨x, hx, rfl⟩)))), hT, tail_same h.left (hO _ (by simp)), tail_same h.were (hO _ (by simp)), fun x hx => ownsRow_same (h.lefts x hx) (hO _ (by simp only [List.mem_append, List.mem_map]; exact Or.inr (Or.inl (Or.inr ⟨x, hx, rfl⟩)))), fun x hx => ownsRow_same (h.float x hx) (hO _ (by simp only [List.mem_append, List.mem_map]; exact Or.inr (Or.inr ⟨x, hx, rfl⟩))), h.nodup⟩
end
theorem size5 : (Try.prog.info? 5).map (·.size) = some 1 := by kernel_rfl
/-- A whole row of bytes is copied over another one of its length. -/
theorem copy_all {w : World} {L n : Nat} {u x : Value} {ys bs : List UInt8} (hu : w.ownsRow L 5 1 u n (ys.map B)) (hx : w.ownsRow L 5 1 x n (bs.map B)) (ty : TypeId) :
    ∃ w', (Builtin.copy_ #[29, 29] ty #[u, x]).run Try.prog w = .ok (.int .i64 (n : Nat)) w' ∧ w'.ownsRow L 5 1 u n (bs.map B) ∧ (w'.os = w.os ∧ w'.tape = w.tape ∧ w'.output = w.output ∧ w'.heap.size = w.heap.size) ∧ ∀ k, u.ownBlock ≠ some k → w'.heap[k]? = w.heap[k]? := by
  have hla : ys.length = n := by have := hu.1; simpa using this
  have hlb : bs.length = n := by have := hx.1; simpa using this
  rcases hu.2 with ⟨rfl, rfl⟩ | ⟨g, cap, cur, rfl, hg, hrow, hc, hcm, hcs, htk⟩
  · obtain rfl : bs = [] := List.eq_nil_of_length_eq_zero hlb
    refine ⟨w, ?_, hu.elim fun _ _ => ⟨by simp, Or.inl ⟨rfl, rfl⟩⟩, ⟨rfl, rfl, rfl, rfl⟩, fun _ _ => rfl⟩
    obtain ⟨i0, hi, hz0, hz1, hz2⟩ := info_parts Try.info5
    obtain ⟨xo, xc, rfl, _⟩ := own_slice hx
    cases xo with
    | none => simp [Builtin.copy_, run_underlying Try.underlying29, sizeOf, typeInfo, hi, Builtin.lenOf, Builtin.firstCells]; rfl
    | some a => simp [Builtin.copy_, run_underlying Try.underlying29, sizeOf, typeInfo, hi, Builtin.lenOf, Builtin.firstCells, loadCells, loadCellsFrom]; rfl
  · obtain ⟨xo, xc, rfl, _, xnil, hf, _⟩ := own_from hx
    by_cases hn0 : n = 0
    · subst hn0
      obtain rfl : bs = [] := List.eq_nil_of_length_eq_zero hlb
      obtain rfl : ys = [] := List.eq_nil_of_length_eq_zero hla
      refine ⟨w, ?_, hu, ⟨rfl, rfl, rfl, rfl⟩, fun _ _ => rfl⟩
      obtain ⟨i0, hi, hz0, hz1, hz2⟩ := info_parts Try.info5
      cases xo with
      | none => simp [Builtin.copy_, run_underlying Try.underlying29, sizeOf, typeInfo, hi, Builtin.lenOf, Builtin.firstCells]; simp [storeCells]; rfl
      | some a => simp [Builtin.copy_, run_underlying Try.underlying29, sizeOf, typeInfo, hi, Builtin.lenOf, Builtin.firstCells, loadCells, loadCellsFrom]; simp [storeCells]; rfl
    · obtain ⟨b, o, rfl, hcc⟩ := hf (by omega)
      have hr := run_copy_row (P := Try.prog) w 29 29 ty 5 g 0 n cap ⟨b, o, none⟩ n xc cur 5 (bs.map B) Try.underlying29 size5 hrow (by simp [hlb, Nat.min_def]) (news_of (w := w) (ad := ⟨b, o, none⟩) (fun h => ⟨b, o, rfl, hcc⟩)) (by simp [hlb]; omega) (oneCells bs)
      have hlm : (bs.map B).length = n := by simp [hlb]
      refine ⟨w.setRow g (over cur 0 (bs.map B)), ?_, ⟨by simp [hlb], Or.inr ⟨g, cap, over cur 0 (bs.map B), rfl, hg, setRow_heap _ _ _ _ 5 _ hrow, hc, hcm, ?_, ?_⟩⟩, ⟨rfl, rfl, rfl, by simp [World.setRow]⟩, fun k hk => heap_setRow_other _ _ _ (fun e => hk (by rw [e]; rfl))⟩
      · rw [hr]
        show Result.ok (Value.int .i64 (((bs.map B).length : Nat) : Int)) (w.setRow g (over cur 0 (bs.map B))) = Result.ok (Value.int .i64 (n : Nat)) (w.setRow g (over cur 0 (bs.map B)))
        rw [hlm]
      · rw [over_size _ _ _ (by omega), hcs]
      · rw [over_take _ _ _ _ (by omega) (by omega) (by omega), List.take_of_length_le (l := bs.map B) (by omega)]
        simp
end Go.Proofs.Ytehjdkdoalmaeaa
