import Derived.Test.YtlajcaofpmjdlaaRd2
namespace Go.Proofs.Ytlajcaofpmjdlaa
open Go.RowKit Go.PlainAid
set_option linter.unusedVariables false
set_option linter.unusedSimpArgs false
section
variable {L rb : Nat} {fv lv : Value} {x : RV}
def rrE (x : RV) (i : Int) : Int := if x.on = false then 200 else if i < 0 ∨ (x.n : Int) ≤ i then 201 else 0
set_option maxRecDepth 100000 in
set_option maxHeartbeats 800000 in
theorem rread_no (i : Int) (w : World) (h : RM L rb fv lv x w) (hne : rrE x i ≠ 0) : Calls Try.prog 50 #[.pointer (some ⟨rb, 0, none⟩), .int .i64 i] w fun e w' => e = .returned (.tuple #[.slice none 0 0, .int .i64 (rrE x i)]) ∧ w' = w := by
  have c0 : w.cell? ⟨rb, 0, none⟩ = some (.int .i64 (x.n : Int)) := h.b.cell 0
  have c3 : w.cell? ⟨rb, 3, none⟩ = some (.bool x.on) := h.b.cell 3
  unfold rrE at hne ⊢
  cases ho : x.on with
  | false =>
    rw [ho] at c3
    clear h hne
    go_enter Try.func50, Try.ntmps50
    go_wp2_with fail
    go_ret2
    exact ⟨by simp, rfl⟩
  | true =>
    rw [ho] at c3 hne
    clear h
    by_cases h1 : i < 0
    · clear hne
      go_enter Try.func50, Try.ntmps50
      go_wp2_with fail
      go_ret2
      exact ⟨by simp [h1], rfl⟩
    · by_cases h2 : (x.n : Int) ≤ i
      · clear hne
        go_enter Try.func50, Try.ntmps50
        go_wp2_with fail
        go_ret2
        exact ⟨by simp [h2], rfl⟩
      · exact absurd (by simp [h1, h2]) hne
set_option maxRecDepth 100000 in
set_option maxHeartbeats 800000 in
theorem rread_yes (i : Nat) (w : World) (h : RM L rb fv lv x w) (ho : x.on = true) (hi : i < x.n) (hlog : x.log.length ≤ 10000) : Calls Try.prog 50 #[.pointer (some ⟨rb, 0, none⟩), .int .i64 (i : Int)] w fun e w' => ∃ v', e = .returned (.tuple #[v', .int .i64 0]) ∧ w'.ownsRow w.heap.size 5 1 v' 512 ((secL x.b i).map B) ∧ Below w.heap.size w w' := by
  have c0 : w.cell? ⟨rb, 0, none⟩ = some (.int .i64 (x.n : Int)) := h.b.cell 0
  have c3 : w.cell? ⟨rb, 3, none⟩ = some (.bool true) := by rw [← ho]; exact h.b.cell 3
  have HB : Hid _ := rbytes_any i w h hi hlog
  have hii : (i : Int) < (x.n : Int) := by omega
  clear h ho
  go_enter Try.func50, Try.ntmps50
  go_wp2_with fail
  refine Calls.mono HB.out ?_
  rintro e w1 ⟨v1, rfl, hr1, hb1⟩
  have HF : Hid _ := And.intro hr1 hb1
  obtain ⟨vo, vc, hv, _⟩ := own_slice hr1
  subst hv
  clear HB hr1 hb1
  go_wp2_with fail
  go_ret2
  exact ⟨_, rfl, HF.out.1, HF.out.2⟩
set_option maxRecDepth 100000 in
set_option maxHeartbeats 6400000 in
theorem rimage_any (w : World) (h : RM L rb fv lv x w) (hlog : x.log.length ≤ 10000) : Calls Try.prog 54 #[.pointer (some ⟨rb, 0, none⟩)] w fun e w' => ∃ v', e = .returned v' ∧ w'.ownsRow w.heap.size 5 1 v' (512 * x.n) (((List.range (512 * x.n)).map x.b).map B) ∧ Below w.heap.size w w' := by
  obtain ⟨hn1, hn2⟩ := h.nb
  obtain ⟨R, hmk, hRs, hRa⟩ := mk_bytes (512 * x.n) (by omega) w
  have hal : Below w.heap.size w (w.alloc (.cells R 5)) := (Below.refl _ _).alloc (Nat.le_refl _) _
  have hBR : Blk (w.alloc (.cells R 5)) w.heap.size R 5 := heap_alloc_new w _
  have hmk' : (Instr.makeSlice 30 (.int .i64 (512 * (x.n : Int))) (.int .i64 (512 * (x.n : Int)))).run Try.prog w = .ok (.slice (some ⟨w.heap.size, 0, none⟩) (512 * x.n) (512 * x.n)) (w.alloc (.cells R 5)) := by
    rw [show 512 * (x.n : Int) = ((512 * x.n : Nat) : Int) by omega]; exact hmk
  have HM : Hid (RM L rb fv lv x w) := h
  have c0 : w.cell? ⟨rb, 0, none⟩ = some (.int .i64 (x.n : Int)) := h.b.cell 0
  obtain ⟨fo, fc, hfv, _⟩ := own_slice h.f
  obtain ⟨lo, lc, hlv, _⟩ := own_slice h.l
  have HFV : Hid (fv = .slice fo x.first.length fc) := hfv
  have HLV : Hid (lv = .slice lo x.log.length lc) := hlv
  have HS0 : Hid (RB w.heap.size (512 * x.n) (fun _ => 0) (w.alloc (.cells R 5)) ∧ Below w.heap.size w (w.alloc (.cells R 5))) := ⟨⟨R, hBR, hRs, fun j hj => hRa j hj⟩, hal⟩
  have HCS : Hid (∀ wr, Below w.heap.size w wr → wr.cell? ⟨rb, 1, none⟩ = some (.slice fo x.first.length fc) ∧ wr.cell? ⟨rb, 2, none⟩ = some (.slice lo x.log.length lc)) := fun wr hb => ⟨((HM.out.more hb).b.cell 1).trans (by rw [← hfv]; rfl), ((HM.out.more hb).b.cell 2).trans (by rw [← hlv]; rfl)⟩
  obtain ⟨fl, hflen⟩ : ∃ fl, fl = x.first.length := ⟨_, rfl⟩
  obtain ⟨ll, hllen⟩ : ∃ ll, ll = x.log.length := ⟨_, rfl⟩
  rw [← hflen] at HFV HCS
  rw [← hllen] at HLV HCS hlog
  have HFE : Hid (fl = x.first.length) := hflen
  have HLE : Hid (ll = x.log.length) := hllen
  have hfl2 : fl = 0 ∨ fl = x.n * 512 := by
    rcases h.fl with e | e
    · left; rw [hflen, e]; rfl
    · right; rw [hflen, e]
  obtain ⟨G, hG⟩ : ∃ G, G = 512 * x.n := ⟨_, rfl⟩
  rw [← hG] at HS0 hmk'
  have HGE : Hid (G = 512 * x.n) := hG
  have hGb : G ≤ 33554432 := by omega
  have hfG : fl = 0 ∨ fl = G := by omega
  clear h hmk hRs hRa hal hBR hfv hlv hflen hllen hG hfl2
  rw [← HGE.out]
  go_enter Try.func54, Try.ntmps54
  go_wp2_with fail
  clear hmk' c0
  go_loopw [4] (fun s4 wr => ∃ i : Nat, i ≤ fl ∧ s4 = .int .i64 (i : Int) ∧ RB w.heap.size G (fun j => if j < i then x.first.getD j 0 else 0) wr ∧ Below w.heap.size w wr) (fun s4 _ => fl - (intOf s4).toNat)
  case atStart => exact ⟨0, by omega, rfl, HS0.out.1.congr (fun i _ => by rw [if_neg (by omega)]), HS0.out.2⟩
  case round =>
    clear HS0
    obtain ⟨i, hi, rfl, hr, hb⟩ := hrel
    obtain ⟨k1, k2⟩ := HCS.out wr hb
    by_cases hgo : i < fl
    · have hiG : i < G := by omega
      obtain ⟨fg, fc', hfe, kf⟩ := row_cell (j := i) (ownsRow_same HM.out.f (fun k hk => hb.block k (ownsRow_lt HM.out.f hk).2)) (by rw [← HFE.out]; omega)
      have hfo : fo = some ⟨fg, 0, none⟩ := by have := HFV.out; rw [hfe] at this; cases this; rfl
      obtain ⟨uo, kc, fc2⟩ : ∃ uo, wr.cell? ⟨w.heap.size, i, none⟩ = some uo ∧ wr.frozen? ⟨w.heap.size, i, none⟩ = false := ⟨_, hr.cell hiG⟩
      have HN : Hid (RB w.heap.size G (fun j => if j < i + 1 then x.first.getD j 0 else 0) (wr.setCell ⟨w.heap.size, i, none⟩ (.int .u8 ((x.first.getD i 0).toNat : Int))) ∧ Below w.heap.size w (wr.setCell ⟨w.heap.size, i, none⟩ (.int .u8 ((x.first.getD i 0).toNat : Int)))) := ⟨hr.set hiG (x.first.getD i 0) (fun j hj => by
        by_cases e : j = i
        · subst e; simp
        · rw [if_neg e]
          by_cases e2 : j < i
          · rw [if_pos (by omega), if_pos e2]
          · rw [if_neg (by omega), if_neg e2]), hb.setCell (Nat.le_refl _) _⟩
      obtain ⟨uf, huf⟩ : ∃ uf, uf = ((x.first.getD i 0).toNat : Int) := ⟨_, rfl⟩
      rw [← huf] at kf HN
      subst hfo
      clear hr hb hfe huf
      go_wp2_with fail
      go_roundw
      case rel => exact ⟨i + 1, by omega, by go_num, HN.out.1, HN.out.2⟩
      case measure => simp [intOf]; omega
    · have HI : Hid (RB w.heap.size G (fun j => layAll x.first (x.log.take 0) j) wr ∧ Below w.heap.size w wr) := ⟨hr.congr (fun j hj => by
        show (x.first.getD j 0) = _
        by_cases e : j < i
        · rw [if_pos e]
        · rw [if_neg e]
          have h0 : fl = 0 := by omega
          have : x.first = [] := List.eq_nil_of_length_eq_zero (by rw [← HFE.out]; exact h0)
          rw [this]
          rfl), hb⟩
      have hif : ¬ ((i : Int) < (fl : Int)) := by omega
      clear hr hb
      go_wp2_with fail
      clear k1 k2
      go_loopw [5] (fun s5 wr => ∃ k : Nat, k ≤ ll ∧ s5 = .int .i64 (k : Int) ∧ RB w.heap.size G (fun j => layAll x.first (x.log.take k) j) wr ∧ Below w.heap.size w wr) (fun s5 _ => ll - (intOf s5).toNat)
      case atStart => exact ⟨0, by omega, rfl, HI.out.1, HI.out.2⟩
      case round =>
        clear HI
        obtain ⟨k, hk, rfl, hr, hb⟩ := hrel
        obtain ⟨k1, k2⟩ := HCS.out wr hb
        by_cases hlt : k < ll
        · obtain ⟨g, hg⟩ : ∃ g, x.log[k]? = some g := ⟨x.log[k]'(by rw [← HLE.out]; exact hlt), List.getElem?_eq_getElem (by rw [← HLE.out]; exact hlt)⟩
          obtain ⟨lg, lc', hle, hlgl, e0, e1, e2⟩ := (HM.out.more hb).ent hg
          have hlo : lo = some ⟨lg, 0, none⟩ := by have := HLV.out; rw [hle] at this; cases this; rfl
          obtain ⟨hgs1, hgs2, hgs3⟩ := HM.out.sz g (List.mem_of_getElem? hg)
          have HTK : Hid (layAll x.first (x.log.take (k + 1)) = lay (layAll x.first (x.log.take k)) g) := layAll_take _ _ _ _ hg
          have HGM : Hid (g ∈ x.log) := List.mem_of_getElem? hg
          obtain ⟨gvo, gvc, hgv, _⟩ := own_slice (HM.out.d g (List.mem_of_getElem? hg))
          rw [hgv] at e2
          have HGV : Hid (g.v = .slice gvo 512 gvc) := hgv
          obtain ⟨q, hq⟩ : ∃ q, q = wr.heap.size := ⟨_, rfl⟩
          obtain ⟨X, hX⟩ : ∃ X, X = wr.alloc (.cells #[.int .i64 (g.s : Int), .int .i64 (g.m : Int), .slice gvo 512 gvc] 92) := ⟨_, rfl⟩
          have hbX : Below wr.heap.size wr X := by rw [hX]; exact (Below.refl _ _).alloc (Nat.le_refl _) _
          have HBX : Hid (Blk X q #[.int .i64 (g.s : Int), .int .i64 (g.m : Int), .slice gvo 512 gvc] 92) := by rw [Hid, hX, hq]; exact heap_alloc_new wr _
          have HI : Hid (RB w.heap.size G (fun j => if g.s * 512 ≤ j ∧ j < g.s * 512 + 0 then g.bs.getD (j - g.s * 512) 0 else layAll x.first (x.log.take k) j) X ∧ Below w.heap.size w X) := ⟨(hr.more hbX).congr (fun j hj => by rw [if_neg (by omega)]), hb.trans (hbX.mono hb.size)⟩
          have HQW : Hid (w.heap.size < q) := by
            obtain ⟨cur, h1, _⟩ := hr
            rw [Hid, hq]
            exact h1.lt
          subst hlo
          clear hr hb hle hg hgv
          go_wp2_with fail
          rw [← hX, ← hq]
          clear k1 k2 e0 e1 e2 hX hq hbX
          go_loopw [7] (fun s7 wr => ∃ i : Nat, i ≤ g.m ∧ s7 = .int .i64 (i : Int) ∧ Blk wr q #[.int .i64 (g.s : Int), .int .i64 (g.m : Int), .slice gvo 512 gvc] 92 ∧ RB w.heap.size G (fun j => if g.s * 512 ≤ j ∧ j < g.s * 512 + i then g.bs.getD (j - g.s * 512) 0 else layAll x.first (x.log.take k) j) wr ∧ Below w.heap.size w wr) (fun s7 _ => g.m - (intOf s7).toNat)
          case atStart => exact ⟨0, by omega, rfl, HBX.out, HI.out.1, HI.out.2⟩
          case round =>
            clear HI HBX
            obtain ⟨i, hi, rfl, hbx, hr, hb⟩ := hrel
            have b0 : wr.cell? ⟨q, 0, none⟩ = some (.int .i64 (g.s : Int)) := hbx.cell 0
            have b1 : wr.cell? ⟨q, 1, none⟩ = some (.int .i64 (g.m : Int)) := hbx.cell 1
            have b2 : wr.cell? ⟨q, 2, none⟩ = some (.slice gvo 512 gvc) := hbx.cell 2
            by_cases hlt3 : i < g.m
            · have hi5 : i < 512 := by omega
              have hiG : g.s * 512 + i < G := by have := HGE.out; omega
              obtain ⟨dg, dc, hde, kd⟩ := row_cell (j := i) (ownsRow_same (HM.out.d g HGM.out) (fun q hq => hb.block q (ownsRow_lt (HM.out.d g HGM.out) hq).2)) hi5
              have hgo : gvo = some ⟨dg, 0, none⟩ := by have := HGV.out; rw [hde] at this; cases this; rfl
              obtain ⟨uo, kc, fc2⟩ : ∃ uo, wr.cell? ⟨w.heap.size, g.s * 512 + i, none⟩ = some uo ∧ wr.frozen? ⟨w.heap.size, g.s * 512 + i, none⟩ = false := ⟨_, hr.cell hiG⟩
              have hqn : ¬ (q = w.heap.size) := by have := HQW.out; omega
              have HN : Hid (Blk (wr.setCell ⟨w.heap.size, g.s * 512 + i, none⟩ (.int .u8 ((g.bs.getD i 0).toNat : Int))) q #[.int .i64 (g.s : Int), .int .i64 (g.m : Int), .slice gvo 512 gvc] 92 ∧ RB w.heap.size G (fun j => if g.s * 512 ≤ j ∧ j < g.s * 512 + (i + 1) then g.bs.getD (j - g.s * 512) 0 else layAll x.first (x.log.take k) j) (wr.setCell ⟨w.heap.size, g.s * 512 + i, none⟩ (.int .u8 ((g.bs.getD i 0).toNat : Int))) ∧ Below w.heap.size w (wr.setCell ⟨w.heap.size, g.s * 512 + i, none⟩ (.int .u8 ((g.bs.getD i 0).toNat : Int)))) := ⟨(setCell_chg _ _ _ _).blk hbx hqn, hr.set hiG (g.bs.getD i 0) (fun j hj => by
                by_cases e : j = g.s * 512 + i
                · rw [if_pos e, if_pos (by omega), e, show g.s * 512 + i - g.s * 512 = i by omega]
                · rw [if_neg e]
                  by_cases e2 : g.s * 512 ≤ j ∧ j < g.s * 512 + i
                  · rw [if_pos (by omega), if_pos e2]
                  · rw [if_neg (by omega), if_neg e2]), hb.setCell (Nat.le_refl _) _⟩
              obtain ⟨uf, huf⟩ : ∃ uf, uf = ((g.bs.getD i 0).toNat : Int) := ⟨_, rfl⟩
              rw [← huf] at kd HN
              have hix : (512 * (g.s : Int) + (i : Int)) = ((g.s * 512 + i : Nat) : Int) := by omega
              have hixw : IntKind.i64.wrap (512 * (g.s : Int) + (i : Int)) = ((g.s * 512 + i : Nat) : Int) := by rw [IntKind.wrap_i64]; omega
              subst hgo
              clear hr hb huf hde hbx
              go_wp2_with fail
              go_region
              all_goals (go_wp2_with fail)
              all_goals (first | (refine ⟨⟨i + 1, by omega, by go_num, HN.out.1, HN.out.2.1, HN.out.2.2.drew⟩, ?_⟩; simp [intOf]; omega))
            · have hie : i = g.m := by omega
              have HN : Hid (RB w.heap.size G (fun j => layAll x.first (x.log.take (k + 1)) j) wr ∧ Below w.heap.size w wr) := ⟨hr.congr (fun j hj => by rw [HTK.out, lay, hie]), hb⟩
              have hgi : ¬ ((i : Int) < (g.m : Int)) := by omega
              clear hr hb hie hbx
              go_wp2_with fail
              go_roundw
              case rel => exact ⟨k + 1, by omega, by go_num, HN.out.1, HN.out.2⟩
              case measure => simp [intOf]; omega
        · have hke : k = ll := by omega
          have hown : wr.ownsRow w.heap.size 5 1 (.slice (some ⟨w.heap.size, 0, none⟩) G G) G (((List.range G).map x.b).map B) := hr.own (Nat.le_refl _) (by unfold maxLen; omega) (by simp) (fun j hj => by
            rw [List.getD_eq_getElem?_getD, List.getElem?_map, List.getElem?_range hj]
            show layAll x.first x.log j = _
            rw [List.take_of_length_le (by rw [hke, HLE.out]; exact Nat.le_refl _)])
          have HF : Hid (wr.ownsRow w.heap.size 5 1 (.slice (some ⟨w.heap.size, 0, none⟩) G G) G (((List.range G).map x.b).map B) ∧ Below w.heap.size w wr) := ⟨hown, hb⟩
          clear hr hb hown
          subst hke
          go_wp2_with fail
          go_ret
          exact ⟨_, rfl, HF.out.1, HF.out.2⟩
/-- The document's trace. -/
def rtrL (x : RV) : List Int := (x.log.drop (x.log.length - 64)).map fun g => (g.s : Int)
set_option maxRecDepth 100000 in
set_option maxHeartbeats 3200000 in
theorem rtrace_any (w : World) (h : RM L rb fv lv x w) (hlog : x.log.length ≤ 10000) : Calls Try.prog 58 #[.pointer (some ⟨rb, 0, none⟩)] w fun e w' => ∃ v', e = .returned v' ∧ w'.ownsRow w.heap.size 3 1 v' (rtrL x).length ((rtrL x).map I) ∧ Below w.heap.size w w' := by
  have HM : Hid (RM L rb fv lv x w) := h
  obtain ⟨lo, lc, hlv, _⟩ := own_slice h.l
  have HLV : Hid (lv = .slice lo x.log.length lc) := hlv
  have HCS : Hid (∀ wr, Below w.heap.size w wr → wr.cell? ⟨rb, 2, none⟩ = some (.slice lo x.log.length lc)) := fun wr hb => ((HM.out.more hb).b.cell 2).trans (by rw [← hlv]; rfl)
  obtain ⟨ll, hllen⟩ : ∃ ll, ll = x.log.length := ⟨_, rfl⟩
  rw [← hllen] at HLV HCS hlog
  have HLE : Hid (ll = x.log.length) := hllen
  have k2 := HCS.out w (Below.refl _ _)
  obtain ⟨k0, hk0⟩ : ∃ k0, k0 = ll - 64 := ⟨_, rfl⟩
  have HK0 : Hid (k0 = ll - 64) := hk0
  have hkl : k0 ≤ ll := by omega
  clear h hlv hllen hk0
  have hmain : ∀ (cs : (ll : Int) - 64 ≤ 0 ∧ k0 = 0 ∨ 0 < (ll : Int) - 64 ∧ (k0 : Int) = (ll : Int) - 64), Calls Try.prog 58 #[.pointer (some ⟨rb, 0, none⟩)] w fun e w' => ∃ v', e = .returned v' ∧ w'.ownsRow w.heap.size 3 1 v' (rtrL x).length ((rtrL x).map I) ∧ Below w.heap.size w w' := by
    intro cs
    have HLOOP : Hid True := trivial
    rcases cs with ⟨ca, cb⟩ | ⟨ca, cb⟩
    · have HCB : Hid (k0 = 0) := cb
      clear cb
      go_enter Try.func58, Try.ntmps58
      go_wp2_with fail
      clear k2
      go_loopw [4, 3] (fun s4 s3 wr => ∃ vd, vd = s3 ∧ ∃ k : Nat, k0 ≤ k ∧ k ≤ ll ∧ s4 = .int .i64 (k : Int) ∧ wr.ownsRow w.heap.size 3 1 vd (k - k0) ((((x.log.take k).drop k0).map fun g => (g.s : Int)).map I) ∧ Below w.heap.size w wr) (fun s4 _ _ => ll - (intOf s4).toNat)
      case atStart => exact ⟨_, rfl, k0, Nat.le_refl _, by omega, by (rw [HCB.out]; rfl), by rw [Nat.sub_self, List.drop_eq_nil_of_le (by rw [List.length_take]; omega)]; exact World.ownsRow_nil _ _ _ _, Below.refl _ _⟩
      case round =>
        obtain ⟨vd, rfl, k, hk0', hk, rfl, hr, hb⟩ := hrel
        have k2 := HCS.out wr hb
        obtain ⟨vo, vc, hvd, _⟩ := own_slice hr
        by_cases hlt : k < ll
        · obtain ⟨g, hg⟩ : ∃ g, x.log[k]? = some g := ⟨x.log[k]'(by rw [← HLE.out]; exact hlt), List.getElem?_eq_getElem (by rw [← HLE.out]; exact hlt)⟩
          obtain ⟨lg, lc', hle, hlgl, e0, e1, e2⟩ := (HM.out.more hb).ent hg
          have hlo : lo = some ⟨lg, 0, none⟩ := by have := HLV.out; rw [hle] at this; cases this; rfl
          obtain ⟨v5, w5, hr5, ho5, hg5⟩ := app_rows (w := wr.alloc (.cells #[.int .i64 (g.s : Int)] 3)) 44 3 (.int .i64 0) 1 8 Try.underlying44 info3 rfl (by decide) (by decide) (hr.alloc _) (ao := some ⟨wr.heap.size, 0, none⟩) (m := 1) (cap := 1) (ys := [I (g.s : Int)]) rfl (fun e => by cases e) (fun ad e j u hu => by
            cases e
            have hB : Blk (wr.alloc (.cells #[.int .i64 (g.s : Int)] 3)) wr.heap.size #[.int .i64 (g.s : Int)] 3 := heap_alloc_new wr _
            rw [addr_add, Nat.zero_add, hB.cell j]
            cases j with
            | zero => simpa [I] using hu
            | succ j => simp at hu) (fun u hu => by rw [List.mem_singleton.1 hu]; rfl) (by omega) (by rw [World.size_alloc]; have := hb.size; omega)
          have HHR : Hid (∀ ty, (Builtin.append_ #[44, 44] ty #[vd, .slice (some ⟨wr.heap.size, 0, none⟩) 1 1]).run Try.prog (wr.alloc (.cells #[.int .i64 (g.s : Int)] 3)) = .ok v5 w5) := hr5
          have HO5 : Hid (w5.ownsRow w.heap.size 3 1 v5 (k + 1 - k0) ((((x.log.take (k + 1)).drop k0).map fun g => (g.s : Int)).map I) ∧ Below w.heap.size w w5) := by
            refine ⟨?_, hb.trans (hg5.ofAlloc.below (fun q hq => (ownsRow_lt hr hq).1) hb.size)⟩
            rw [List.take_add_one, hg, show k + 1 - k0 = k - k0 + 1 by omega, List.drop_append_of_le_length (by rw [List.length_take]; have := HLE.out; omega)]
            simp only [Option.toList_some, List.map_append, List.map_cons, List.map_nil]
            exact ho5
          subst hvd
          subst hlo
          clear hr hb hr5 ho5 hg5 hg hle e1 e2
          go_wp2_with (at_builtin; refine wpList_runs rfl _ _ 44 rfl rfl rfl HHR.out ?_)
          go_roundw
          case rel => exact ⟨_, rfl, k + 1, by omega, by omega, by go_num, HO5.out.1, HO5.out.2⟩
          case measure => simp [intOf]; omega
        · have hke : k = ll := by omega
          have HF : Hid (wr.ownsRow w.heap.size 3 1 vd (rtrL x).length ((rtrL x).map I) ∧ Below w.heap.size w wr) := by
            have hle := HLE.out
            have h0 := HK0.out
            have e1 : ((x.log.take k).drop k0).map (fun g => (g.s : Int)) = rtrL x := by
              rw [List.take_of_length_le (by omega)]
              unfold rtrL
              rw [h0, hle]
            have e2 : k - k0 = (rtrL x).length := by rw [← e1]; simp; omega
            rw [e1, e2] at hr
            exact ⟨hr, hb⟩
          have hkn : ¬ ((k : Int) < (ll : Int)) := by omega
          subst hvd
          clear hr hb hke
          go_wp2_with fail
          go_ret
          exact ⟨_, rfl, HF.out.1, HF.out.2⟩
    · go_enter Try.func58, Try.ntmps58
      go_wp2_with fail
      clear k2
      go_loopw [4, 3] (fun s4 s3 wr => ∃ vd, vd = s3 ∧ ∃ k : Nat, k0 ≤ k ∧ k ≤ ll ∧ s4 = .int .i64 (k : Int) ∧ wr.ownsRow w.heap.size 3 1 vd (k - k0) ((((x.log.take k).drop k0).map fun g => (g.s : Int)).map I) ∧ Below w.heap.size w wr) (fun s4 _ _ => ll - (intOf s4).toNat)
      case atStart => exact ⟨_, rfl, k0, Nat.le_refl _, by omega, by (rw [cb]), by rw [Nat.sub_self, List.drop_eq_nil_of_le (by rw [List.length_take]; omega)]; exact World.ownsRow_nil _ _ _ _, Below.refl _ _⟩
      case round =>
        obtain ⟨vd, rfl, k, hk0', hk, rfl, hr, hb⟩ := hrel
        have k2 := HCS.out wr hb
        obtain ⟨vo, vc, hvd, _⟩ := own_slice hr
        by_cases hlt : k < ll
        · obtain ⟨g, hg⟩ : ∃ g, x.log[k]? = some g := ⟨x.log[k]'(by rw [← HLE.out]; exact hlt), List.getElem?_eq_getElem (by rw [← HLE.out]; exact hlt)⟩
          obtain ⟨lg, lc', hle, hlgl, e0, e1, e2⟩ := (HM.out.more hb).ent hg
          have hlo : lo = some ⟨lg, 0, none⟩ := by have := HLV.out; rw [hle] at this; cases this; rfl
          obtain ⟨v5, w5, hr5, ho5, hg5⟩ := app_rows (w := wr.alloc (.cells #[.int .i64 (g.s : Int)] 3)) 44 3 (.int .i64 0) 1 8 Try.underlying44 info3 rfl (by decide) (by decide) (hr.alloc _) (ao := some ⟨wr.heap.size, 0, none⟩) (m := 1) (cap := 1) (ys := [I (g.s : Int)]) rfl (fun e => by cases e) (fun ad e j u hu => by
            cases e
            have hB : Blk (wr.alloc (.cells #[.int .i64 (g.s : Int)] 3)) wr.heap.size #[.int .i64 (g.s : Int)] 3 := heap_alloc_new wr _
            rw [addr_add, Nat.zero_add, hB.cell j]
            cases j with
            | zero => simpa [I] using hu
            | succ j => simp at hu) (fun u hu => by rw [List.mem_singleton.1 hu]; rfl) (by omega) (by rw [World.size_alloc]; have := hb.size; omega)
          have HHR : Hid (∀ ty, (Builtin.append_ #[44, 44] ty #[vd, .slice (some ⟨wr.heap.size, 0, none⟩) 1 1]).run Try.prog (wr.alloc (.cells #[.int .i64 (g.s : Int)] 3)) = .ok v5 w5) := hr5
          have HO5 : Hid (w5.ownsRow w.heap.size 3 1 v5 (k + 1 - k0) ((((x.log.take (k + 1)).drop k0).map fun g => (g.s : Int)).map I) ∧ Below w.heap.size w w5) := by
            refine ⟨?_, hb.trans (hg5.ofAlloc.below (fun q hq => (ownsRow_lt hr hq).1) hb.size)⟩
            rw [List.take_add_one, hg, show k + 1 - k0 = k - k0 + 1 by omega, List.drop_append_of_le_length (by rw [List.length_take]; have := HLE.out; omega)]
            simp only [Option.toList_some, List.map_append, List.map_cons, List.map_nil]
            exact ho5
          subst hvd
          subst hlo
          clear hr hb hr5 ho5 hg5 hg hle e1 e2
          go_wp2_with (at_builtin; refine wpList_runs rfl _ _ 44 rfl rfl rfl HHR.out ?_)
          go_roundw
          case rel => exact ⟨_, rfl, k + 1, by omega, by omega, by go_num, HO5.out.1, HO5.out.2⟩
          case measure => simp [intOf]; omega
        · have hke : k = ll := by omega
          have HF : Hid (wr.ownsRow w.heap.size 3 1 vd (rtrL x).length ((rtrL x).map I) ∧ Below w.heap.size w wr) := by
            have hle := HLE.out
            have h0 := HK0.out
            have e1 : ((x.log.take k).drop k0).map (fun g => (g.s : Int)) = rtrL x := by
              rw [List.take_of_length_le (by omega)]
              unfold rtrL
              rw [h0, hle]
            have e2 : k - k0 = (rtrL x).length := by rw [← e1]; simp; omega
            rw [e1, e2] at hr
            exact ⟨hr, hb⟩
          have hkn : ¬ ((k : Int) < (ll : Int)) := by omega
          subst hvd
          clear hr hb hke
          go_wp2_with fail
          go_ret
          exact ⟨_, rfl, HF.out.1, HF.out.2⟩
  exact hmain (by have := HK0.out; omega)
end
end Go.Proofs.Ytlajcaofpmjdlaa
