import Derived.Test.YtboghanldbmfmabDoorGet
import Derived.Laws.CopyOwn
import Derived.Deep.RegionWith
import Derived.RegionTactic
namespace Go.Proofs.YtboghanldbmfmabDoor
open Go.RowKit

/-- The header, and the whole frame, of a payload. -/
def hdr (ps : List UInt8) : List UInt8 := 1 :: byteAt ps.length 0 :: byteAt ps.length 1 :: ps
def frameOf (ps : List UInt8) : List UInt8 := hdr ps ++ le4 (sumN (hdr ps))
theorem hdr_len (ps : List UInt8) : (hdr ps).length = ps.length + 3 := by simp [hdr]
theorem frameOf_len (ps : List UInt8) : (frameOf ps).length = ps.length + 7 := by simp [frameOf, hdr_len, le4]

theorem Tryd.info5 : (Tryd.prog.info? 5).map (fun i => (i.zero, i.size, i.bytes)) = some (some (.int .u8 0), 1, 1) := by kernel_rfl
theorem size5 : (Tryd.prog.info? 5).map (·.size) = some 1 := by kernel_rfl

theorem row_of_owns {w : World} {base g n : Nat} {bs : List UInt8} (h : w.ownsRow base 5 1 (.slice (some ⟨g, 0, none⟩) n n) n (bs.map B)) : Row w g bs := by
  rcases h.2 with ⟨h, _⟩ | ⟨g', cap, cur, h, _, hg, _, _, hcs, htake⟩
  · cases h
  · simp only [Value.slice.injEq, Option.some.injEq, Addr.mk.injEq] at h
    obtain ⟨⟨rfl, _⟩, _, rfl⟩ := h
    rw [List.take_of_length_le (by simp; omega)] at htake
    unfold Row
    rw [hg, ← htake]

/-- What copy leaves: the header, the payload, four zeros. -/
theorem splice_hdr (ps : List UInt8) (n : Nat) (hn : ps.length = n) :
    splice (1 :: byteAt n 0 :: byteAt n 1 :: List.replicate (n + 4) (0 : UInt8)) 3 ps = hdr ps ++ [0, 0, 0, 0] := by
  subst hn
  unfold splice hdr
  rw [show 3 + ps.length = ps.length + 3 from by omega]
  simp [List.drop_replicate]

theorem oneCells (ps : List UInt8) : ∀ v ∈ ps.map B, v.oneCell' = true := by
  intro v hv
  obtain ⟨u, _, rfl⟩ := List.mem_map.1 hv
  rfl

/-- 'copy' into a row of the call's own, from a slice of bytes that lies elsewhere. -/
theorem copy_run {w0 w : World} {g off dLen dCap n cap L : Nat} {ao : Option Addr} {cur ps : List UInt8} (hR : Row w g cur) (hn : ps.length = n) (hd : n ≤ dLen) (hfit : off + n ≤ cur.length)
    (hb : Below L w0 w) (hg : L ≤ g)
    (hsrc : 0 < n → ∃ ad, ao = some ad ∧ ∀ j u, ps[j]? = some u → w.cell? (ad.add j) = some (B u)) :
    ∃ w', Sem.run Tryd.prog (Builtin.copy_ #[22, 22] 3 #[.slice (some ⟨g, off, none⟩) dLen dCap, .slice ao n cap]) w = .ok (.int .i64 n) w' ∧ Row w' g (splice cur off ps) ∧ Below L w0 w' := by
  by_cases h0 : n = 0
  · subst h0
    obtain rfl : ps = [] := List.eq_nil_of_length_eq_zero hn
    refine ⟨w, run_copy_none (P := Tryd.prog) w 22 22 3 5 _ ao dLen dCap 0 cap Tryd.underlying22 size5 (by simp), ?_, hb⟩
    simpa [splice] using hR
  · obtain ⟨ad, rfl, hc⟩ := hsrc (by omega)
    have hsr : ∀ j v, (ps.map B)[j]? = some v → w.cell? (ad.add j) = some v := by
      intro j v hv
      rw [List.getElem?_map] at hv
      cases hu : ps[j]? with
      | none => rw [hu] at hv; cases hv
      | some u => rw [hu] at hv; cases hv; exact hc j u hu
    have hrun := run_copy_row (P := Tryd.prog) w 22 22 3 5 g off dLen dCap ad n cap (cur.map B).toArray 5 (ps.map B) Tryd.underlying22 size5 hR (by simp [hn, Nat.min_def]; omega) hsr (by simp; omega) (oneCells ps)
    refine ⟨_, by rw [hrun, List.length_map, hn]; rfl, ?_, below_setRow hb hg _⟩
    exact (setRow_heap w g _ _ 5 _ hR).trans (by simp [splice, hn])

theorem src_below {w w1 : World} {L : Nat} {ao : Option Addr} {ps : List UInt8} {n : Nat} (hL : L = w.heap.size) (hb : Below L w w1)
    (hsrc : 0 < n → ∃ ad, ao = some ad ∧ ∀ j u, ps[j]? = some u → w.cell? (ad.add j) = some (B u)) :
    0 < n → ∃ ad, ao = some ad ∧ ∀ j u, ps[j]? = some u → w1.cell? (ad.add j) = some (B u) := by
  intro h
  obtain ⟨ad, rfl, hc⟩ := hsrc h
  refine ⟨ad, rfl, fun j u hu => ?_⟩
  have := hc j u hu
  rw [← this]
  exact hb.cell (by rw [hL]; exact World.block_lt_of_cell? w _ this)

theorem run_from (b off len cap l : Nat) (L : Int) (hL : L = (l : Int)) (h1 : l ≤ len) (h2 : l < cap) (wx : World) :
    (Instr.slice 22 (.slice (some ⟨b, off, none⟩) len cap) (some (.int .i64 L)) none none).run Tryd.prog wx = .ok (.slice (some ⟨b, off + l, none⟩) (len - l) (cap - l)) wx := by
  subst hL
  have hs : (sizeOf 5).run Tryd.prog wx = .ok 1 wx := by kernel_rfl
  have h3 : ¬ cap = l := by omega
  simp [Instr.slice, run_underlying Tryd.underlying22, Instr.sliceBounds, Instr.sliceBound, asIntOf, h1, h3, hs, go_sem]
theorem run_to (b off len cap h : Nat) (H : Int) (hH : H = (h : Int)) (h1 : h ≤ cap) (wx : World) :
    (Instr.slice 22 (.slice (some ⟨b, off, none⟩) len cap) none (some (.int .i64 H)) none).run Tryd.prog wx = .ok (.slice (some ⟨b, off, none⟩) h cap) wx := by
  subst hH
  have hs : (sizeOf 5).run Tryd.prog wx = .ok 1 wx := by kernel_rfl
  simp [Instr.slice, run_underlying Tryd.underlying22, Instr.sliceBounds, Instr.sliceBound, asIntOf, h1, hs, Addr.add, go_sem]

set_option maxHeartbeats 400000 in
theorem seal_any (ao : Option Addr) (n cap : Nat) (ps : List UInt8) (w : World) (hn : ps.length = n) (hm : n ≤ 4096) (hT : Tab w)
    (hsrc : 0 < n → ∃ ad, ao = some ad ∧ ∀ j u, ps[j]? = some u → w.cell? (ad.add j) = some (B u)) :
    Calls Tryd.prog 12 #[.slice ao n cap] w fun e w' => e = .returned (.tuple #[.slice (some ⟨w.heap.size, 0, none⟩) (n + 7) (n + 7), .int .i64 0]) ∧ Row w' w.heap.size (frameOf ps) ∧ Below w.heap.size w w' := by
  obtain ⟨i0, hi, hz0, hz1, hz2⟩ := info_parts Tryd.info5
  go_enter Tryd.func12, Tryd.ntmps12
  go_wp2_with (first
    | (at_make; go_must (refine wpList_make_full _ rfl _ _ 22 rfl w.heap.size 5 i0 _ 1 Tryd.underlying22 hi hz0 hz1 _ _ _ _ (n + 7) rfl rfl (by omega) (by omega) (by rw [hz2]; omega) (by unfold maxLen; omega) (Nat.le_refl _) ?_))
    | fail)
  intro w1 hown1 hg1
  have hR1 : Row w1 w.heap.size (List.replicate (n + 7) 0) := by
    refine row_of_owns (base := w.heap.size) (n := n + 7) ?_
    have e : (madeCells #[Value.int .u8 0] (n + 7)).toList = (List.replicate (n + 7) (0 : UInt8)).map B := by
      rw [toList_madeCells_one, List.map_replicate]; rfl
    rw [← e]; exact hown1
  have hb1 : Below w.heap.size w w1 := (Below.refl _ _).grown hg1 (Nat.le_refl _) (fun k h => by cases h)
  clear hown1 hg1
  have hfz : ∀ o, w1.frozen? ⟨w.heap.size, o, none⟩ = false := hR1.frozen
  have c0 := hR1.cell 0 0 (by rw [List.getElem?_replicate, if_pos (by omega)])
  have c1 := hR1.cell 1 0 (by rw [List.getElem?_replicate, if_pos (by omega)])
  have c2 := hR1.cell 2 0 (by rw [List.getElem?_replicate, if_pos (by omega)])
  simp only [B] at c0 c1 c2
  have hR3 : Row (((w1.setCell ⟨w.heap.size, 0, none⟩ (.int .u8 1)).setCell ⟨w.heap.size, 1, none⟩ (.int .u8 ((n : Int) % 256))).setCell ⟨w.heap.size, 2, none⟩ (.int .u8 ((n : Int) / 256))) w.heap.size (1 :: byteAt n 0 :: byteAt n 1 :: List.replicate (n + 4) 0) := by
    have e1 : Value.int .u8 ((n : Int) % 256) = B (byteAt n 0) := by rw [B, byteAt_nat]; exact val_u8 (by omega)
    have e2 : Value.int .u8 ((n : Int) / 256) = B (byteAt n 1) := by rw [B, byteAt_nat]; exact val_u8 (by omega)
    rw [e1, e2]
    have := ((hR1.set 0 1).set 1 (byteAt n 0)).set 2 (byteAt n 1)
    rw [show n + 7 = n + 4 + 1 + 1 + 1 from rfl, List.replicate_succ, List.replicate_succ, List.replicate_succ] at this
    exact this
  have hb3 : Below w.heap.size w (((w1.setCell ⟨w.heap.size, 0, none⟩ (.int .u8 1)).setCell ⟨w.heap.size, 1, none⟩ (.int .u8 ((n : Int) % 256))).setCell ⟨w.heap.size, 2, none⟩ (.int .u8 ((n : Int) / 256))) :=
    ((hb1.setCell (Nat.le_refl _) _).setCell (Nat.le_refl _) _).setCell (Nat.le_refl _) _
  obtain ⟨w2, hcopy, hR2, hb2⟩ := copy_run (ao := ao) (dLen := n + 4) (dCap := n + 4) (off := 3) (cap := cap) hR3 hn (by omega) (by simp; omega) hb3 (Nat.le_refl _) (src_below rfl hb3 hsrc)
  rw [splice_hdr ps n hn] at hR2
  clear hR3 hR1 hb1 hb3 hsrc
  go_wp2_with fail
  clear hcopy c0 c1 c2 hfz
  have hA2 : At w2 w.heap.size 0 (hdr ps) := hR2.at 0 _ (by simp)
  have hT2 : Tab w2 := fun i hi => by
    have := hT i hi
    rw [← this]
    exact hb2.cell (World.block_lt_of_cell? w _ this)
  have hl := hdr_len ps
  have hsl := sumN_lt (hdr ps)
  clear hT
  have hs1 := run_from w.heap.size 0 (n + 7) (n + 7) (n + 3) (3 + (n : Int)) (by omega) (by omega) (by omega)
  have hs2 := run_to w.heap.size 0 (n + 7) (n + 7) (n + 3) (3 + (n : Int)) (by omega) (by omega)
  rw [show 0 + (n + 3) = n + 3 from by omega, show n + 7 - (n + 3) = 4 from by omega] at hs1
  have t1 : (3 + (n : Int)).toNat = n + 3 := by omega
  have t2 : ¬ (n + 7 = n + 3) := by omega
  have t3 : ¬ (n + 7 = 3 + n) := by omega
  have t4 : (3 + (n : Int)) ≤ (n : Int) + 7 := by omega
  have t5 : (0 : Int) ≤ 3 + (n : Int) := by omega
  have t6 : IntKind.i64.wrap (3 + (n : Int)) = 3 + (n : Int) := by rw [IntKind.wrap_i64]; omega
  go_region_with (first
    | (go_at_call 23; refine (sum_any _ _ _ _ (hdr ps) _ (by omega) (by omega) (by exact hA2) (by exact hT2)).mono ?_; rintro e w' ⟨rfl, rfl⟩)
    | (go_at_call 22; refine (putSum_any _ _ _ _ (hdr ps ++ [0, 0, 0, 0]) _ (by exact hR2) (by simp; omega) (by omega)).mono ?_; rintro e w' ⟨rfl, rfl⟩))
  go_wp2
  go_ret2
  refine ⟨rfl, ?_, ?_⟩
  · have hRd : Row w2.drew w.heap.size (hdr ps ++ [0, 0, 0, 0]) := hR2
    have := put_row (off := n + 3) (s := sumN (hdr ps)) hRd 4
    rw [show n + 3 = (hdr ps).length from by omega, sets_4 _ _ _ rfl] at this
    rw [show n + 3 = (hdr ps).length from by omega]
    exact this
  · exact hb2.drew.trans (put_below 4 (Nat.le_refl _))

/-- Too long: refused, and nothing is touched. -/
theorem seal_long (ao : Option Addr) (n cap : Nat) (w : World) (hm : 4096 < n) (hx : n ≤ 9223372036854775807) :
    Calls Tryd.prog 12 #[.slice ao n cap] w fun e w' => e = .returned (.tuple #[.slice none 0 0, .int .i64 2]) ∧ w' = w := by
  go_enter Tryd.func12, Tryd.ntmps12
  go_wp2
  go_ret2
  exact ⟨rfl, rfl⟩
end Go.Proofs.YtboghanldbmfmabDoor
