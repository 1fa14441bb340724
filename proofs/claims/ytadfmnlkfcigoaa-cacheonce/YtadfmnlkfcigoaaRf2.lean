import Derived.Test.YtadfmnlkfcigoaaRf1
import Derived.Test.YtadfmnlkfcigoaaJoinA
namespace Go.Proofs.Ytadfmnlkfcigoaa
open Go.RowKit Go.PlainAid Go.MapKept
set_option linter.unusedVariables false
set_option linter.unusedSimpArgs false
theorem flatR_get : ∀ (es : List Rp) (i j : Nat) (e : Rp), es[i]? = some e → j < 4 → (flatR es)[i * 4 + j]? = (rpv e)[j]?
  | [], _, _, _, h, _ => by simp at h
  | x :: t, 0, j, e, h, hj => by
    simp at h
    subst h
    simp only [flatR, List.flatMap_cons, Nat.zero_mul, Nat.zero_add]
    exact List.getElem?_append_left (by simp [rpv]; omega)
  | x :: t, i + 1, j, e, h, hj => by
    have ih := flatR_get t i j e (by simpa using h) hj
    simp only [flatR, List.flatMap_cons] at ih ⊢
    rw [List.getElem?_append_right (by simp [rpv]; omega)]
    rw [← ih]
    congr 1
    simp [rpv]
    omega
theorem cellR {w : World} {L n cap g i : Nat} {rs : List Rp} (h : w.ownsRow L 36 4 (.slice (some ⟨g, 0, none⟩) n cap) n (flatR rs)) {x : Rp} (hx : rs[i]? = some x) : w.cell? ⟨g, i * 4, none⟩ = some (.int .i64 x.s) ∧ w.cell? ⟨g, i * 4 + 1, none⟩ = some (.int .i64 x.i) ∧ w.cell? ⟨g, i * 4 + 2, none⟩ = some (.int .i64 x.e) ∧ w.cell? ⟨g, i * 4 + 3, none⟩ = some (.int .i64 x.v) := by
  have key : ∀ t u, t < 4 → (rpv x)[t]? = some u → w.cell? ⟨g, i * 4 + t, none⟩ = some u := fun t u ht hu => by
    have := h.cells (g := g) rfl (i * 4 + t) u (by rw [flatR_get rs i t x hx ht]; exact hu)
    rwa [addr_add, Nat.zero_add] at this
  exact ⟨key 0 _ (by omega) rfl, key 1 _ (by omega) rfl, key 2 _ (by omega) rfl, key 3 _ (by omega) rfl⟩
theorem cell_alloc {w : World} {A : Addr} {v : Value} (h : w.cell? A = some v) (o : Obj) : (w.alloc o).cell? A = some v := (((Below.refl _ w).alloc (Nat.le_refl _) o).cell (World.block_lt_of_cell? w _ h)).trans h
theorem blk_alloc {w : World} {b : Nat} {C : Array Value} {T : TypeId} (h : Blk w b C T) (o : Obj) : Blk (w.alloc o) b C T := h.below ((Below.refl _ w).alloc (Nat.le_refl _) o) h.lt
/-- How far 'kept' has come. -/
structure KS (a : CA) (B rb : Nat) (r : RS) (s i : Int) (cb rs tb : Nat) (w0 w : World) (k : Nat) : Prop where
  rc : RC a B rb r w
  cb : Blk w cb #[.int .i64 s, .int .i64 i] 32
  rs : Blk w rs #[.int .i64 0, .int .i64 0, .int .i64 0, .int .i64 0] 36
  tb : Blk w tb (rpA ((lastOf s i (r.rp.take k)).getD zrp)) 36
  bel : Below w0.heap.size w0 w
theorem take_next {rp : List Rp} {k : Nat} {x : Rp} (hx : rp[k]? = some x) : rp.take (k + 1) = rp.take k ++ [x] := by
  rw [List.take_add_one, hx]
  rfl
theorem results_cell2' {fn : Func} {p u : Tmp} (h : fn.results = #[.cell p 36, .tmp u]) (tmps : Array Value) (w : World) (g : Nat) (cs : Array Value) (v : Value)
    (hp : tmps.getD p undef = .pointer (some ⟨g, 0, none⟩)) (hv : tmps.getD u undef = v) (hg : Blk w g cs 36) (hi : (Try.prog.info? 36).map (·.size) = some cs.size) :
    (results fn tmps).run Try.prog w = .ok (.tuple #[.agg cs, v]) w := results_cell2 h tmps w g cs v hp hv hg hi
set_option maxRecDepth 100000 in
set_option maxHeartbeats 6400000 in
theorem rkept_any {a : CA} {B rb : Nat} {r : RS} (s i : Int) (w : World) (h : RC a B rb r w) (hl : r.rp.length ≤ 100000) (hlo : rb < w.heap.size) :
    Calls Try.prog 38 #[.pointer (some ⟨rb, 0, none⟩), .agg #[.int .i64 s, .int .i64 i]] w fun e w' => e = .returned (.tuple #[.agg (rpA ((keptF a.room s i r.rp).getD zrp)), .bool (keptF a.room s i r.rp).isSome]) ∧ Below w.heap.size w w' := by
  obtain ⟨res, hres⟩ : ∃ res, res = keptF a.room s i r.rp := ⟨_, rfl⟩
  rw [← hres]
  have HRES : Hid _ := hres
  obtain ⟨X, hX⟩ : ∃ X, X = ((w.alloc (.cells #[.int .i64 s, .int .i64 i] 32)).alloc (.cells #[.int .i64 0, .int .i64 0, .int .i64 0, .int .i64 0] 36)).alloc (.cells #[.int .i64 0, .int .i64 0, .int .i64 0, .int .i64 0] 36) := ⟨_, rfl⟩
  obtain ⟨cb, hcb⟩ : ∃ cb, cb = w.heap.size := ⟨_, rfl⟩
  obtain ⟨rs, hrs⟩ : ∃ rs, rs = w.heap.size + 1 := ⟨_, rfl⟩
  obtain ⟨tb, htb⟩ : ∃ tb, tb = w.heap.size + 1 + 1 := ⟨_, rfl⟩
  have g1 : Below w.heap.size w (w.alloc (.cells #[.int .i64 s, .int .i64 i] 32)) := (Below.refl _ _).alloc (Nat.le_refl _) _
  have g2 : Below w.heap.size w ((w.alloc (.cells #[.int .i64 s, .int .i64 i] 32)).alloc (.cells #[.int .i64 0, .int .i64 0, .int .i64 0, .int .i64 0] 36)) := g1.alloc g1.size _
  have hbX : Below w.heap.size w X := by rw [hX]; exact g2.alloc g2.size _
  have hK0 : KS a B rb r s i cb rs tb w X 0 := by
    refine ⟨h.more hbX, ?_, ?_, ?_, hbX⟩
    · rw [hX, hcb]
      exact blk_alloc (blk_alloc (heap_alloc_new w _) _) _
    · rw [hX, hrs]
      have := heap_alloc_new (w.alloc (.cells #[.int .i64 s, .int .i64 i] 32)) (.cells #[.int .i64 0, .int .i64 0, .int .i64 0, .int .i64 0] 36)
      rw [World.size_alloc] at this
      exact blk_alloc this _
    · rw [hX, htb]
      have := heap_alloc_new ((w.alloc (.cells #[.int .i64 s, .int .i64 i] 32)).alloc (.cells #[.int .i64 0, .int .i64 0, .int .i64 0, .int .i64 0] 36)) (.cells #[.int .i64 0, .int .i64 0, .int .i64 0, .int .i64 0] 36)
      rw [World.size_alloc, World.size_alloc] at this
      exact this
  have HK0 : Hid _ := hK0
  have HNE : Hid (cb ≠ tb ∧ rs ≠ tb ∧ w.heap.size ≤ tb ∧ w.heap.size ≤ rs) := ⟨by omega, by omega, by omega, by omega⟩
  have HOL : Hid (∀ k, r.own rb k → k < w.heap.size) := fun k hk => h.lt hk
  have hz := zero36
  have hz2 : ∀ w, (zeroValue 32).run Try.prog w = .ok (.agg #[.int .i64 0, .int .i64 0]) w := fun w => by kernel_rfl
  obtain ⟨ao, cap, hvr, hcap, _, hrd⟩ := own_read h.rr
  have HVR : Hid (r.vr = .slice ao r.rp.length cap) := hvr
  have HRD : Hid (0 < r.rp.length → ∃ g, ao = some ⟨g, 0, none⟩) := fun hh => by
    obtain ⟨g, e, _⟩ := hrd hh
    exact ⟨g, e⟩
  clear h hres g1 g2 hbX hvr hrd hK0
  go_enter Try.func38, Try.ntmps38
  go_wp2_with fail
  rw [← hX, ← htb, ← hrs, ← hcb]
  clear hX htb hrs hcb
  go_loopw [7, 8, 9] (fun fo ab i' wr => ∃ k : Nat, k ≤ r.rp.length ∧ i' = .int .i64 k ∧ fo = .bool (lastOf s i (r.rp.take k)).isSome ∧ ab = .int .i64 (above s i (r.rp.take k) : Nat) ∧ KS a B rb r s i cb rs tb w wr k) (fun _ _ i' _ => r.rp.length - (intOf i').toNat)
  case atStart => exact ⟨0, Nat.zero_le _, rfl, rfl, rfl, HK0.out⟩
  case round =>
    obtain ⟨k, hk, rfl, rfl, rfl, hS⟩ := hrel
    have c69 := hS.rc.cell.2.2.2.2.2
    rw [HVR.out] at c69
    have hab : above s i (r.rp.take k) ≤ 100000 := by
      have h1 : above s i (r.rp.take k) ≤ (r.rp.take k).length := List.countP_le_length
      have h2 : (r.rp.take k).length ≤ r.rp.length := by simp; omega
      omega
    by_cases hlt : k < r.rp.length
    · obtain ⟨x, hx⟩ : ∃ x, r.rp[k]? = some x := ⟨r.rp[k], List.getElem?_eq_getElem hlt⟩
      obtain ⟨g, rfl⟩ := HRD.out (by omega)
      have hrr := hS.rc.rr
      rw [HVR.out] at hrr
      obtain ⟨p0, p1, p2, p3⟩ := cellR hrr hx
      have m69 := fun o => cell_alloc c69 o
      have m0 := fun o => cell_alloc p0 o
      have m1 := fun o => cell_alloc p1 o
      have m2 := fun o => cell_alloc p2 o
      have m3 := fun o => cell_alloc p3 o
      have b0 := fun o => cell_alloc (hS.cb.cell 0) o
      have b1 := fun o => cell_alloc (hS.cb.cell 1) o
      simp at b0 b1
      obtain ⟨cur, hcur⟩ : ∃ cur, cur = (lastOf s i (r.rp.take k)).getD zrp := ⟨_, rfl⟩
      have htb := hS.tb
      rw [← hcur] at htb
      have t0 : ∀ o, (wr.alloc o).cell? ⟨tb, 0, none⟩ = some (.int .i64 cur.s) := fun o => (blk_alloc htb o).cell 0
      have t1 : ∀ o, (wr.alloc o).cell? ⟨tb, 1, none⟩ = some (.int .i64 cur.i) := fun o => (blk_alloc htb o).cell 1
      have t2 : ∀ o, (wr.alloc o).cell? ⟨tb, 2, none⟩ = some (.int .i64 cur.e) := fun o => (blk_alloc htb o).cell 2
      have t3 : ∀ o, (wr.alloc o).cell? ⟨tb, 3, none⟩ = some (.int .i64 cur.v) := fun o => (blk_alloc htb o).cell 3
      have f0 : ∀ o, (wr.alloc o).frozen? ⟨tb, 0, none⟩ = false := fun o => (blk_alloc htb o).frozen 0
      have f1 : ∀ o, (wr.alloc o).frozen? ⟨tb, 1, none⟩ = false := fun o => (blk_alloc htb o).frozen 1
      have f2 : ∀ o, (wr.alloc o).frozen? ⟨tb, 2, none⟩ = false := fun o => (blk_alloc htb o).frozen 2
      have f3 : ∀ o, (wr.alloc o).frozen? ⟨tb, 3, none⟩ = false := fun o => (blk_alloc htb o).frozen 3
      have htk := take_next hx
      have hnew : wr.heap.size ≠ tb := fun e => by have := htb.lt; omega
      have HSA : Hid (∀ o, KS a B rb r s i cb rs tb w (wr.alloc o) k) := fun o => ⟨hS.rc.more ((Below.refl _ _).alloc (Nat.le_refl _) _), blk_alloc hS.cb o, blk_alloc hS.rs o, blk_alloc hS.tb o, hS.bel.alloc hS.bel.size _⟩
      by_cases he : x.s = s ∧ x.i = i
      · obtain ⟨he1, he2⟩ := he
        have HL : Hid (lastOf s i (r.rp.take (k + 1)) = some x) := show lastOf s i (r.rp.take (k + 1)) = some x from by rw [htk, lastOf_app, if_pos ⟨he1, he2⟩]
        have HA : Hid (above s i (r.rp.take (k + 1)) = above s i (r.rp.take k)) := show above s i (r.rp.take (k + 1)) = above s i (r.rp.take k) from by rw [htk, above_app, if_neg (by omega), Nat.add_zero]
        have HST : Hid (∀ o, KS a B rb r s i cb rs tb w (((((wr.alloc o).setCell ⟨tb, 0, none⟩ (.int .i64 s)).setCell ⟨tb, 1, none⟩ (.int .i64 i)).setCell ⟨tb, 2, none⟩ (.int .i64 x.e)).setCell ⟨tb, 3, none⟩ (.int .i64 x.v)) (k + 1)) := fun o => by
          have h0 := HSA.out o
          obtain ⟨b4, c4, l4⟩ := blk4 (z0 := _) (z1 := _) (z2 := _) (z3 := _) (show Blk (wr.alloc o) tb #[_, _, _, _] 36 from h0.tb) (.int .i64 s) (.int .i64 i) (.int .i64 x.e) (.int .i64 x.v)
          refine ⟨h0.rc.keep c4 (fun q hq e => ?_), c4.blk h0.cb HNE.out.1, c4.blk h0.rs HNE.out.2.1, ?_, h0.bel.trans (c4.below h0.bel.size (fun q e => by rw [e]; exact HNE.out.2.2.1))⟩
          · have := HOL.out q hq
            have := HNE.out.2.2.1
            omega
          · rw [HL.out]
            have : rpA x = #[.int .i64 s, .int .i64 i, .int .i64 x.e, .int .i64 x.v] := by unfold rpA; rw [he1, he2]
            simp only [Option.getD_some]
            rw [this]
            exact b4
        rw [he1] at p0 m0
        rw [he2] at p1 m1
        have n1 : cb ≠ tb := HNE.out.1
        clear hS hrr hx htk htb hcur HSA he1 he2
        go_wp2_with fail
        go_roundw
        case rel => exact ⟨k + 1, by omega, by go_num, by rw [HL.out]; rfl, by rw [HA.out], HST.out _⟩
        case measure => simp [intOf]; omega
      · have HL : Hid (lastOf s i (r.rp.take (k + 1)) = lastOf s i (r.rp.take k)) := show lastOf s i (r.rp.take (k + 1)) = lastOf s i (r.rp.take k) from by rw [htk, lastOf_app, if_neg he]
        have HST : Hid (∀ o, KS a B rb r s i cb rs tb w (wr.alloc o) (k + 1)) := fun o => by
          have h0 := HSA.out o
          exact ⟨h0.rc, h0.cb, h0.rs, by rw [HL.out]; exact h0.tb, h0.bel⟩
        by_cases hs1 : x.s = s
        · have hi1 : x.i ≠ i := fun e => he ⟨hs1, e⟩
          by_cases hg : i < x.i
          · have HA : Hid (above s i (r.rp.take (k + 1)) = above s i (r.rp.take k) + 1) := show above s i (r.rp.take (k + 1)) = above s i (r.rp.take k) + 1 from by rw [htk, above_app, if_pos ⟨hs1, hg⟩]
            rw [hs1] at p0 m0
            clear hS hrr hx htk htb hcur HSA he hs1 t0 t1 t2 t3 f0 f1 f2 f3
            go_wp2_with fail
            go_roundw
            case rel => exact ⟨k + 1, by omega, by go_num, by rw [HL.out], by rw [HA.out]; go_num, HST.out _⟩
            case measure => simp [intOf]; omega
          · have HA : Hid (above s i (r.rp.take (k + 1)) = above s i (r.rp.take k)) := show above s i (r.rp.take (k + 1)) = above s i (r.rp.take k) from by rw [htk, above_app, if_neg (by omega), Nat.add_zero]
            rw [hs1] at p0 m0
            clear hS hrr hx htk htb hcur HSA he hs1 t0 t1 t2 t3 f0 f1 f2 f3
            go_wp2_with fail
            go_roundw
            case rel => exact ⟨k + 1, by omega, by go_num, by rw [HL.out], by rw [HA.out], HST.out _⟩
            case measure => simp [intOf]; omega
        · have HA : Hid (above s i (r.rp.take (k + 1)) = above s i (r.rp.take k)) := show above s i (r.rp.take (k + 1)) = above s i (r.rp.take k) from by rw [htk, above_app, if_neg (by omega), Nat.add_zero]
          clear hS hrr hx htk htb hcur HSA he t0 t1 t2 t3 f0 f1 f2 f3
          go_wp2_with fail
          go_roundw
          case rel => exact ⟨k + 1, by omega, by go_num, by rw [HL.out], by rw [HA.out], HST.out _⟩
          case measure => simp [intOf]; omega
    · have hke : k = r.rp.length := by omega
      have htk : r.rp.take k = r.rp := by rw [hke, List.take_length]
      rw [htk] at hab ⊢
      have htb := hS.tb
      rw [htk] at htb
      have c3 := hS.rc.cell.2.2.2.1
      have z0 : wr.cell? ⟨rs, 0, none⟩ = some (.int .i64 0) := hS.rs.cell 0
      have z1 : wr.cell? ⟨rs, 1, none⟩ = some (.int .i64 0) := hS.rs.cell 1
      have z2 : wr.cell? ⟨rs, 2, none⟩ = some (.int .i64 0) := hS.rs.cell 2
      have z3 : wr.cell? ⟨rs, 3, none⟩ = some (.int .i64 0) := hS.rs.cell 3
      have y0 : wr.frozen? ⟨rs, 0, none⟩ = false := hS.rs.frozen 0
      have y1 : wr.frozen? ⟨rs, 1, none⟩ = false := hS.rs.frozen 1
      have y2 : wr.frozen? ⟨rs, 2, none⟩ = false := hS.rs.frozen 2
      have y3 : wr.frozen? ⟨rs, 3, none⟩ = false := hS.rs.frozen 3
      have HRS : Hid (Blk wr rs #[.int .i64 0, .int .i64 0, .int .i64 0, .int .i64 0] 36) := hS.rs
      have HBE : Hid (Below w.heap.size w wr) := hS.bel
      have HNE2 : Hid (w.heap.size ≤ rs) := HNE.out.2.2.2
      have hku : k = r.rp.length := hke
      cases hL : lastOf s i r.rp with
      | none =>
        have HR0 : Hid (keptF a.room s i r.rp = none) := show keptF a.room s i r.rp = none from by unfold keptF; rw [hL]; simp
        simp only [Option.isSome_none]
        subst hke
        clear hS htb htk hku hL
        go_wp2_with fail
        obtain ⟨b4, _, l4⟩ := blk4 HRS.out (.int .i64 0) (.int .i64 0) (.int .i64 0) (.int .i64 0)
        refine bodyPost_ret (results_cell2 Try.results38 _ _ rs _ _ rfl rfl b4 (by kernel_rfl)) rfl ?_
        exact ⟨by rw [HRES.out, HR0.out]; rfl, HBE.out.trans ⟨l4.os, l4.tape, l4.output, l4.size, fun k hk => l4.block k (by have := HNE2.out; omega)⟩⟩
      | some x =>
        rw [hL] at htb
        simp only [Option.getD_some] at htb
        simp only [Option.isSome_some]
        by_cases hra : above s i r.rp < a.room
        · have HR0 : Hid (keptF a.room s i r.rp = some x) := show keptF a.room s i r.rp = some x from by unfold keptF; rw [hL, if_pos hra]
          have x0 : wr.cell? ⟨tb, 0, none⟩ = some (.int .i64 x.s) := htb.cell 0
          have x1 : wr.cell? ⟨tb, 1, none⟩ = some (.int .i64 x.i) := htb.cell 1
          have x2 : wr.cell? ⟨tb, 2, none⟩ = some (.int .i64 x.e) := htb.cell 2
          have x3 : wr.cell? ⟨tb, 3, none⟩ = some (.int .i64 x.v) := htb.cell 3
          subst hke
          clear hS htb htk hku hL
          go_wp2_with fail
          obtain ⟨b4, _, l4⟩ := blk4 HRS.out (.int .i64 x.s) (.int .i64 x.i) (.int .i64 x.e) (.int .i64 x.v)
          refine bodyPost_ret (results_cell2 Try.results38 _ _ rs _ _ rfl rfl b4 (by kernel_rfl)) rfl ?_
          exact ⟨by rw [HRES.out, HR0.out]; rfl, HBE.out.trans ⟨l4.os, l4.tape, l4.output, l4.size, fun k hk => l4.block k (by have := HNE2.out; omega)⟩⟩
        · have HR0 : Hid (keptF a.room s i r.rp = none) := show keptF a.room s i r.rp = none from by unfold keptF; rw [if_neg hra]
          subst hke
          clear hS htb htk hku hL
          go_wp2_with fail
          obtain ⟨b4, _, l4⟩ := blk4 HRS.out (.int .i64 0) (.int .i64 0) (.int .i64 0) (.int .i64 0)
          refine bodyPost_ret (results_cell2 Try.results38 _ _ rs _ _ rfl rfl b4 (by kernel_rfl)) rfl ?_
          exact ⟨by rw [HRES.out, HR0.out]; rfl, HBE.out.trans ⟨l4.os, l4.tape, l4.output, l4.size, fun k hk => l4.block k (by have := HNE2.out; omega)⟩⟩
end Go.Proofs.Ytadfmnlkfcigoaa
