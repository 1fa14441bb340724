import Derived.Test.YtlajcaofpmjdlaaRd1
namespace Go.Proofs.Ytlajcaofpmjdlaa
open Go.RowKit Go.PlainAid
set_option linter.unusedVariables false
set_option linter.unusedSimpArgs false
def lay (f : Nat → UInt8) (g : RE) : Nat → UInt8 := fun k => if g.s * 512 ≤ k ∧ k < g.s * 512 + g.m then g.bs.getD (k - g.s * 512) 0 else f k
def layAll (first : List UInt8) (log : List RE) : Nat → UInt8 := log.foldl lay (fun k => first.getD k 0)
def RV.b (x : RV) : Nat → UInt8 := layAll x.first x.log
theorem layAll_take (first : List UInt8) (log : List RE) (k : Nat) (g : RE) (h : log[k]? = some g) : layAll first (log.take (k + 1)) = lay (layAll first (log.take k)) g := by
  unfold layAll
  rw [List.take_add_one, h]
  simp [List.foldl_append]
/-- A row of bytes that is being filled. -/
def RB (g n : Nat) (F : Nat → UInt8) (w : World) : Prop := ∃ cur, Blk w g cur 5 ∧ cur.size = n ∧ ∀ j, j < n → cur[j]? = some (B (F j))
theorem RB.cell {g n : Nat} {F : Nat → UInt8} {w : World} (h : RB g n F w) {j : Nat} (hj : j < n) : w.cell? ⟨g, j, none⟩ = some (B (F j)) ∧ w.frozen? ⟨g, j, none⟩ = false := by
  obtain ⟨cur, h1, h2, h3⟩ := h
  exact ⟨(h1.cell j).trans (h3 j hj), h1.frozen j⟩
theorem RB.set {g n : Nat} {F G : Nat → UInt8} {w : World} (h : RB g n F w) {j : Nat} (hj : j < n) (u : UInt8) (hG : ∀ i, i < n → G i = if i = j then u else F i) : RB g n G (w.setCell ⟨g, j, none⟩ (B u)) := by
  obtain ⟨cur, h1, h2, h3⟩ := h
  refine ⟨_, h1.set j _, by simp [h2], fun i hi => ?_⟩
  rw [hG i hi]
  by_cases e : i = j
  · subst e
    rw [Array.getElem?_setIfInBounds_self_of_lt (by omega), if_pos rfl]
  · rw [Array.getElem?_setIfInBounds_ne (fun e' => e e'.symm), if_neg e]
    exact h3 i hi
theorem RB.congr {g n : Nat} {F G : Nat → UInt8} {w : World} (h : RB g n F w) (hG : ∀ i, i < n → G i = F i) : RB g n G w := by
  obtain ⟨cur, h1, h2, h3⟩ := h
  exact ⟨cur, h1, h2, fun j hj => by rw [hG j hj]; exact h3 j hj⟩
theorem RB.more {g n : Nat} {F : Nat → UInt8} {w w' : World} (h : RB g n F w) (hb : Below w.heap.size w w') : RB g n F w' := by
  obtain ⟨cur, h1, h2, h3⟩ := h
  exact ⟨cur, h1.below hb h1.lt, h2, h3⟩
theorem RB.own {g n L : Nat} {F : Nat → UInt8} {w : World} (h : RB g n F w) (hL : L ≤ g) (hm : n ≤ maxLen) {bs : List UInt8} (hl : bs.length = n) (hb : ∀ j, j < n → bs.getD j 0 = F j) : w.ownsRow L 5 1 (.slice (some ⟨g, 0, none⟩) n n) n (bs.map B) := by
  obtain ⟨cur, h1, h2, h3⟩ := h
  exact own_blk h1 hL h2 hm (fun j hj => by rw [h3 j hj, hb j hj]) hl
/-- A log's entry is read. -/
theorem RM.ent {L rb : Nat} {fv lv : Value} {x : RV} {w : World} (h : RM L rb fv lv x w) {k : Nat} {g : RE} (hk : x.log[k]? = some g) : ∃ lg lc, lv = .slice (some ⟨lg, 0, none⟩) x.log.length lc ∧ lg < w.heap.size ∧ w.cell? ⟨lg, k * 3, none⟩ = some (.int .i64 (g.s : Int)) ∧ w.cell? ⟨lg, k * 3 + 1, none⟩ = some (.int .i64 (g.m : Int)) ∧ w.cell? ⟨lg, k * 3 + 2, none⟩ = some g.v := by
  have hlt := (List.getElem?_eq_some_iff.1 hk).1
  rcases id h.l.2 with ⟨e, e0⟩ | ⟨lg, c, cur, e, hrest⟩
  · omega
  · have hr := h.l
    rw [e] at hr
    have hc : ∀ j, j < 3 → w.cell? ⟨lg, k * 3 + j, none⟩ = g.row[j]? := fun j hj => by
      have h1 := flat_at RE.row 3 (fun _ => rfl) x.log k j g hk hj
      have h2 : g.row[j]? = some (g.row[j]'(by simp [RE.row]; omega)) := List.getElem?_eq_getElem _
      have h3 := hr.cells (g := lg) rfl (k * 3 + j) _ (h1.trans h2)
      rw [addr_add, Nat.zero_add] at h3
      rw [h3, h2]
    exact ⟨lg, c, e, (hr.lt lg rfl).2, hc 0 (by omega), hc 1 (by omega), hc 2 (by omega)⟩
theorem row_cell {w : World} {L n j : Nat} {v : Value} {zs : List UInt8} (h : w.ownsRow L 5 1 v n (zs.map B)) (hj : j < n) : ∃ g c, v = .slice (some ⟨g, 0, none⟩) n c ∧ w.cell? ⟨g, j, none⟩ = some (.int .u8 ((zs.getD j 0).toNat : Int)) := by
  have hl : zs.length = n := by have := h.1; simpa using this
  rcases id h.2 with ⟨e, e0⟩ | ⟨g, c, cur, e, hrest⟩
  · omega
  · subst e
    refine ⟨g, c, rfl, ?_⟩
    have := h.cells (g := g) rfl j (B (zs.getD j 0)) (by rw [List.getElem?_map, List.getD_eq_getElem?_getD, List.getElem?_eq_getElem (by omega)]; rfl)
    rwa [addr_add, Nat.zero_add] at this
section
variable {L rb : Nat} {fv lv : Value} {x : RV}
set_option maxRecDepth 100000 in
set_option maxHeartbeats 6400000 in
theorem rbytes_any (s : Nat) (w : World) (h : RM L rb fv lv x w) (hs : s < x.n) (hlog : x.log.length ≤ 10000) : Calls Try.prog 55 #[.pointer (some ⟨rb, 0, none⟩), .int .i64 (s : Int)] w fun e w' => ∃ v', e = .returned v' ∧ w'.ownsRow w.heap.size 5 1 v' 512 ((secL x.b s).map B) ∧ Below w.heap.size w w' := by
  obtain ⟨R, hmk, hRs, hRa⟩ := mk_bytes 512 (by omega) w
  have hal : Below w.heap.size w (w.alloc (.cells R 5)) := (Below.refl _ _).alloc (Nat.le_refl _) _
  have hBR : Blk (w.alloc (.cells R 5)) w.heap.size R 5 := heap_alloc_new w _
  have hmk' : (Instr.makeSlice 30 (.int .i64 512) (.int .i64 512)).run Try.prog w = .ok (.slice (some ⟨w.heap.size, 0, none⟩) 512 512) (w.alloc (.cells R 5)) := hmk
  have HM : Hid (RM L rb fv lv x w) := h
  obtain ⟨hn1, hn2⟩ := h.nb
  obtain ⟨fo, fc, hfv, _⟩ := own_slice h.f
  obtain ⟨lo, lc, hlv, _⟩ := own_slice h.l
  have HFV : Hid (fv = .slice fo x.first.length fc) := hfv
  have HLV : Hid (lv = .slice lo x.log.length lc) := hlv
  have HS0 : Hid (RB w.heap.size 512 (fun _ => 0) (w.alloc (.cells R 5)) ∧ Below w.heap.size w (w.alloc (.cells R 5))) := ⟨⟨R, hBR, hRs, fun j hj => hRa j hj⟩, hal⟩
  have HFL : Hid (x.first = [] ∨ x.first.length = x.n * 512) := h.fl
  have HCS : Hid (∀ wr, Below w.heap.size w wr → wr.cell? ⟨rb, 1, none⟩ = some (.slice fo x.first.length fc) ∧ wr.cell? ⟨rb, 2, none⟩ = some (.slice lo x.log.length lc)) := fun wr hb => ⟨((HM.out.more hb).b.cell 1).trans (by rw [← hfv]; rfl), ((HM.out.more hb).b.cell 2).trans (by rw [← hlv]; rfl)⟩
  obtain ⟨fl, hflen⟩ : ∃ fl, fl = x.first.length := ⟨_, rfl⟩
  obtain ⟨ll, hllen⟩ : ∃ ll, ll = x.log.length := ⟨_, rfl⟩
  rw [← hflen] at HFV HCS
  rw [← hllen] at HLV HCS hlog
  have HFE : Hid (fl = x.first.length) := hflen
  have HLE : Hid (ll = x.log.length) := hllen
  have hfl2 : fl = 0 ∨ fl = x.n * 512 := by
    rcases h.fl with e | e
    · left; rw [hflen, e]; rfl
    · right; rw [hflen, e]
  clear h hmk hRs hRa hal hBR hfv hlv hflen hllen
  go_enter Try.func55, Try.ntmps55
  go_wp2_with fail
  clear hmk'
  go_loopw [6] (fun s6 wr => ∃ i : Nat, i ≤ 512 ∧ s6 = .int .i64 (i : Int) ∧ RB w.heap.size 512 (fun j => if j < i then x.first.getD (s * 512 + j) 0 else 0) wr ∧ Below w.heap.size w wr) (fun s6 _ => 512 - (intOf s6).toNat)
  case atStart => exact ⟨0, by omega, rfl, HS0.out.1.congr (fun i _ => by rw [if_neg (by omega)]), HS0.out.2⟩
  case round =>
    clear HS0
    obtain ⟨i, hi, rfl, hr, hb⟩ := hrel
    obtain ⟨k1, k2⟩ := HCS.out wr hb
    by_cases hgo : i < 512 ∧ 0 < fl
    · obtain ⟨hgo1, hgo2⟩ := hgo
      have hfx : fl = x.n * 512 := by omega
      obtain ⟨fg, fc', hfe, kf⟩ := row_cell (j := s * 512 + i) (ownsRow_same HM.out.f (fun k hk => hb.block k (ownsRow_lt HM.out.f hk).2)) (by rw [← HFE.out]; omega)
      have hfo : fo = some ⟨fg, 0, none⟩ := by have := HFV.out; rw [hfe] at this; cases this; rfl
      obtain ⟨uo, kc, fc2⟩ : ∃ uo, wr.cell? ⟨w.heap.size, i, none⟩ = some uo ∧ wr.frozen? ⟨w.heap.size, i, none⟩ = false := ⟨_, hr.cell hgo1⟩
      have HN : Hid (RB w.heap.size 512 (fun j => if j < i + 1 then x.first.getD (s * 512 + j) 0 else 0) (wr.setCell ⟨w.heap.size, i, none⟩ (.int .u8 ((x.first.getD (s * 512 + i) 0).toNat : Int))) ∧ Below w.heap.size w (wr.setCell ⟨w.heap.size, i, none⟩ (.int .u8 ((x.first.getD (s * 512 + i) 0).toNat : Int)))) := ⟨hr.set hgo1 (x.first.getD (s * 512 + i) 0) (fun j hj => by
        by_cases e : j = i
        · subst e; simp
        · rw [if_neg e]
          by_cases e2 : j < i
          · rw [if_pos (by omega), if_pos e2]
          · rw [if_neg (by omega), if_neg e2]), hb.setCell (Nat.le_refl _) _⟩
      obtain ⟨uf, huf⟩ : ∃ uf, uf = ((x.first.getD (s * 512 + i) 0).toNat : Int) := ⟨_, rfl⟩
      rw [← huf] at kf HN
      have hix : (512 * (s : Int) + (i : Int)) = ((s * 512 + i : Nat) : Int) := by omega
      have hixn : s * 512 + i < fl := by omega
      subst hfo
      clear hr hb hfe huf hfx
      go_wp2_with fail
      go_roundw
      case rel => exact ⟨i + 1, by omega, by go_num, HN.out.1, HN.out.2⟩
      case measure => simp [intOf]; omega
    · have HI : Hid (RB w.heap.size 512 (fun j => layAll x.first (x.log.take 0) (s * 512 + j)) wr ∧ Below w.heap.size w wr) := ⟨hr.congr (fun j hj => by
        show (x.first.getD (s * 512 + j) 0) = _
        by_cases e : j < i
        · rw [if_pos e]
        · rw [if_neg e]
          have h0 : fl = 0 := by omega
          have : x.first = [] := List.eq_nil_of_length_eq_zero (by rw [← HFE.out]; exact h0)
          rw [this]
          rfl), hb⟩
      clear hr hb
      by_cases hi5 : i < 512
      · have hf0 : fl = 0 := by omega
        subst hf0
        go_wp2_with fail
        clear k1 k2
        go_loopw [7] (fun s7 wr => ∃ k : Nat, k ≤ ll ∧ s7 = .int .i64 (k : Int) ∧ RB w.heap.size 512 (fun j => layAll x.first (x.log.take k) (s * 512 + j)) wr ∧ Below w.heap.size w wr) (fun s7 _ => ll - (intOf s7).toNat)
        case atStart => exact ⟨0, by omega, rfl, HI.out.1, HI.out.2⟩
        case round =>
          clear HI
          obtain ⟨k, hk, rfl, hr, hb⟩ := hrel
          obtain ⟨k1, k2⟩ := HCS.out wr hb
          by_cases hlt : k < ll
          · obtain ⟨g, hg⟩ : ∃ g, x.log[k]? = some g := ⟨x.log[k]'(by rw [← HLE.out]; exact hlt), List.getElem?_eq_getElem (by rw [← HLE.out]; exact hlt)⟩
            obtain ⟨lg, lc', hle, hlgl, e0, e1, e2⟩ := (HM.out.more hb).ent hg
            have hlo : lo = some ⟨lg, 0, none⟩ := by have := HLV.out; rw [hle] at this; cases this; rfl
            have hgs := HM.out.sz g (List.mem_of_getElem? hg)
            obtain ⟨hgs1, hgs2, hgs3⟩ := hgs
            have HTK : Hid (layAll x.first (x.log.take (k + 1)) = lay (layAll x.first (x.log.take k)) g) := layAll_take _ _ _ _ hg
            have HGM : Hid (g ∈ x.log) := List.mem_of_getElem? hg
            have HG : Hid (x.log[k]? = some g) := hg
            obtain ⟨lg0, hlg0⟩ : ∃ lg0, lg0 = lg := ⟨_, rfl⟩
            have HLG : Hid (lg < w.heap.size) := by
              have h1 := HLV.out
              rw [hlo] at h1
              exact (HM.out.l.lt lg (by rw [h1]; rfl)).2
            subst hlo
            by_cases hsec : g.s = s
            · have hsi : (g.s : Int) = (s : Int) := by omega
              have HI : Hid (RB w.heap.size 512 (fun j => if j < 0 then g.bs.getD j 0 else layAll x.first (x.log.take k) (s * 512 + j)) wr ∧ Below w.heap.size w wr) := ⟨hr.congr (fun j hj => by rw [if_neg (by omega)]), hb⟩
              rw [hsec] at e0
              have HSE : Hid (g.s = s) := hsec
              clear hr hb hle hg hsec hsi e2
              go_wp2_with fail
              clear k1 k2 e0 e1
              go_loopw [8] (fun s8 wr => ∃ i : Nat, i ≤ g.m ∧ s8 = .int .i64 (i : Int) ∧ RB w.heap.size 512 (fun j => if j < i then g.bs.getD j 0 else layAll x.first (x.log.take k) (s * 512 + j)) wr ∧ Below w.heap.size w wr) (fun s8 _ => g.m - (intOf s8).toNat)
              case atStart => exact ⟨0, by omega, rfl, HI.out.1, HI.out.2⟩
              case round =>
                clear HI
                obtain ⟨i, hi, rfl, hr, hb⟩ := hrel
                obtain ⟨k1, k2⟩ := HCS.out wr hb
                obtain ⟨lg2, lc2, hle, hlgl2, e0, e1, e2⟩ := (HM.out.more hb).ent HG.out
                have hl2 : lg2 = lg := by have := HLV.out; rw [hle] at this; cases this; rfl
                subst hl2
                by_cases hlt3 : i < g.m
                · have hi5 : i < 512 := by omega
                  obtain ⟨dg, dc, hde, kd⟩ := row_cell (j := i) (ownsRow_same (HM.out.d g HGM.out) (fun q hq => hb.block q (ownsRow_lt (HM.out.d g HGM.out) hq).2)) hi5
                  obtain ⟨uo, kc, fc2⟩ : ∃ uo, wr.cell? ⟨w.heap.size, i, none⟩ = some uo ∧ wr.frozen? ⟨w.heap.size, i, none⟩ = false := ⟨_, hr.cell hi5⟩
                  have HN : Hid (RB w.heap.size 512 (fun j => if j < i + 1 then g.bs.getD j 0 else layAll x.first (x.log.take k) (s * 512 + j)) (wr.setCell ⟨w.heap.size, i, none⟩ (.int .u8 ((g.bs.getD i 0).toNat : Int))) ∧ Below w.heap.size w (wr.setCell ⟨w.heap.size, i, none⟩ (.int .u8 ((g.bs.getD i 0).toNat : Int)))) := ⟨hr.set hi5 (g.bs.getD i 0) (fun j hj => by
                    by_cases e : j = i
                    · subst e; simp
                    · rw [if_neg e]
                      by_cases e2 : j < i
                      · rw [if_pos (by omega), if_pos e2]
                      · rw [if_neg (by omega), if_neg e2]), hb.setCell (Nat.le_refl _) _⟩
                  obtain ⟨uf, huf⟩ : ∃ uf, uf = ((g.bs.getD i 0).toNat : Int) := ⟨_, rfl⟩
                  rw [← huf] at kd HN
                  rw [hde] at e2
                  clear hr hb hle huf hde e0
                  go_wp2_with fail
                  go_roundw
                  case rel => exact ⟨i + 1, by omega, by go_num, HN.out.1, HN.out.2⟩
                  case measure => simp [intOf]; omega
                · have hie : i = g.m := by omega
                  have HN : Hid (RB w.heap.size 512 (fun j => layAll x.first (x.log.take (k + 1)) (s * 512 + j)) wr ∧ Below w.heap.size w wr) := ⟨hr.congr (fun j hj => by
                    rw [HTK.out, lay, HSE.out, hie]
                    by_cases e : j < g.m
                    · rw [if_pos (by omega), if_pos e, show s * 512 + j - s * 512 = j by omega]
                    · rw [if_neg (by omega), if_neg e]), hb⟩
                  have hgi : ¬ ((i : Int) < (g.m : Int)) := by omega
                  clear hr hb hle e0 e2 hie
                  go_wp2_with fail
                  go_roundw
                  case rel => exact ⟨k + 1, by omega, by go_num, HN.out.1, HN.out.2⟩
                  case measure => simp [intOf]; omega
            · have hsi : ((g.s : Int) == (s : Int)) = false := by simp; omega
              have HN : Hid (RB w.heap.size 512 (fun j => layAll x.first (x.log.take (k + 1)) (s * 512 + j)) wr ∧ Below w.heap.size w wr) := ⟨hr.congr (fun j hj => by
                rw [HTK.out, lay, if_neg (by omega)]), hb⟩
              clear hr hb hle e1 e2 hg
              go_wp2_with fail
              go_roundw
              case rel => exact ⟨k + 1, by omega, by go_num, HN.out.1, HN.out.2⟩
              case measure => simp [intOf]; omega
          · have hke : k = ll := by omega
            have hown : wr.ownsRow w.heap.size 5 1 (.slice (some ⟨w.heap.size, 0, none⟩) 512 512) 512 ((secL x.b s).map B) := hr.own (Nat.le_refl _) (by unfold maxLen; omega) (secL_len _ _) (fun j hj => by
              rw [secL_getD _ _ _ hj]
              show layAll x.first x.log (s * 512 + j) = _
              rw [List.take_of_length_le (by rw [hke, HLE.out]; exact Nat.le_refl _)])
            have HF : Hid (wr.ownsRow w.heap.size 5 1 (.slice (some ⟨w.heap.size, 0, none⟩) 512 512) 512 ((secL x.b s).map B) ∧ Below w.heap.size w wr) := ⟨hown, hb⟩
            clear hr hb hown
            subst hke
            go_wp2_with fail
            go_ret
            exact ⟨_, rfl, HF.out.1, HF.out.2⟩
      · have hi6 : i = 512 := by omega
        subst hi6
        go_wp2_with fail
        clear k1 k2
        go_loopw [7] (fun s7 wr => ∃ k : Nat, k ≤ ll ∧ s7 = .int .i64 (k : Int) ∧ RB w.heap.size 512 (fun j => layAll x.first (x.log.take k) (s * 512 + j)) wr ∧ Below w.heap.size w wr) (fun s7 _ => ll - (intOf s7).toNat)
        case atStart => exact ⟨0, by omega, rfl, HI.out.1, HI.out.2⟩
        case round =>
          clear HI
          obtain ⟨k, hk, rfl, hr, hb⟩ := hrel
          obtain ⟨k1, k2⟩ := HCS.out wr hb
          by_cases hlt : k < ll
          · obtain ⟨g, hg⟩ : ∃ g, x.log[k]? = some g := ⟨x.log[k]'(by rw [← HLE.out]; exact hlt), List.getElem?_eq_getElem (by rw [← HLE.out]; exact hlt)⟩
            obtain ⟨lg, lc', hle, hlgl, e0, e1, e2⟩ := (HM.out.more hb).ent hg
            have hlo : lo = some ⟨lg, 0, none⟩ := by have := HLV.out; rw [hle] at this; cases this; rfl
            have hgs := HM.out.sz g (List.mem_of_getElem? hg)
            obtain ⟨hgs1, hgs2, hgs3⟩ := hgs
            have HTK : Hid (layAll x.first (x.log.take (k + 1)) = lay (layAll x.first (x.log.take k)) g) := layAll_take _ _ _ _ hg
            have HGM : Hid (g ∈ x.log) := List.mem_of_getElem? hg
            have HG : Hid (x.log[k]? = some g) := hg
            obtain ⟨lg0, hlg0⟩ : ∃ lg0, lg0 = lg := ⟨_, rfl⟩
            have HLG : Hid (lg < w.heap.size) := by
              have h1 := HLV.out
              rw [hlo] at h1
              exact (HM.out.l.lt lg (by rw [h1]; rfl)).2
            subst hlo
            by_cases hsec : g.s = s
            · have hsi : (g.s : Int) = (s : Int) := by omega
              have HI : Hid (RB w.heap.size 512 (fun j => if j < 0 then g.bs.getD j 0 else layAll x.first (x.log.take k) (s * 512 + j)) wr ∧ Below w.heap.size w wr) := ⟨hr.congr (fun j hj => by rw [if_neg (by omega)]), hb⟩
              rw [hsec] at e0
              have HSE : Hid (g.s = s) := hsec
              clear hr hb hle hg hsec hsi e2
              go_wp2_with fail
              clear k1 k2 e0 e1
              go_loopw [8] (fun s8 wr => ∃ i : Nat, i ≤ g.m ∧ s8 = .int .i64 (i : Int) ∧ RB w.heap.size 512 (fun j => if j < i then g.bs.getD j 0 else layAll x.first (x.log.take k) (s * 512 + j)) wr ∧ Below w.heap.size w wr) (fun s8 _ => g.m - (intOf s8).toNat)
              case atStart => exact ⟨0, by omega, rfl, HI.out.1, HI.out.2⟩
              case round =>
                clear HI
                obtain ⟨i, hi, rfl, hr, hb⟩ := hrel
                obtain ⟨k1, k2⟩ := HCS.out wr hb
                obtain ⟨lg2, lc2, hle, hlgl2, e0, e1, e2⟩ := (HM.out.more hb).ent HG.out
                have hl2 : lg2 = lg := by have := HLV.out; rw [hle] at this; cases this; rfl
                subst hl2
                by_cases hlt3 : i < g.m
                · have hi5 : i < 512 := by omega
                  obtain ⟨dg, dc, hde, kd⟩ := row_cell (j := i) (ownsRow_same (HM.out.d g HGM.out) (fun q hq => hb.block q (ownsRow_lt (HM.out.d g HGM.out) hq).2)) hi5
                  obtain ⟨uo, kc, fc2⟩ : ∃ uo, wr.cell? ⟨w.heap.size, i, none⟩ = some uo ∧ wr.frozen? ⟨w.heap.size, i, none⟩ = false := ⟨_, hr.cell hi5⟩
                  have HN : Hid (RB w.heap.size 512 (fun j => if j < i + 1 then g.bs.getD j 0 else layAll x.first (x.log.take k) (s * 512 + j)) (wr.setCell ⟨w.heap.size, i, none⟩ (.int .u8 ((g.bs.getD i 0).toNat : Int))) ∧ Below w.heap.size w (wr.setCell ⟨w.heap.size, i, none⟩ (.int .u8 ((g.bs.getD i 0).toNat : Int)))) := ⟨hr.set hi5 (g.bs.getD i 0) (fun j hj => by
                    by_cases e : j = i
                    · subst e; simp
                    · rw [if_neg e]
                      by_cases e2 : j < i
                      · rw [if_pos (by omega), if_pos e2]
                      · rw [if_neg (by omega), if_neg e2]), hb.setCell (Nat.le_refl _) _⟩
                  obtain ⟨uf, huf⟩ : ∃ uf, uf = ((g.bs.getD i 0).toNat : Int) := ⟨_, rfl⟩
                  rw [← huf] at kd HN
                  rw [hde] at e2
                  clear hr hb hle huf hde e0
                  go_wp2_with fail
                  go_roundw
                  case rel => exact ⟨i + 1, by omega, by go_num, HN.out.1, HN.out.2⟩
                  case measure => simp [intOf]; omega
                · have hie : i = g.m := by omega
                  have HN : Hid (RB w.heap.size 512 (fun j => layAll x.first (x.log.take (k + 1)) (s * 512 + j)) wr ∧ Below w.heap.size w wr) := ⟨hr.congr (fun j hj => by
                    rw [HTK.out, lay, HSE.out, hie]
                    by_cases e : j < g.m
                    · rw [if_pos (by omega), if_pos e, show s * 512 + j - s * 512 = j by omega]
                    · rw [if_neg (by omega), if_neg e]), hb⟩
                  have hgi : ¬ ((i : Int) < (g.m : Int)) := by omega
                  clear hr hb hle e0 e2 hie
                  go_wp2_with fail
                  go_roundw
                  case rel => exact ⟨k + 1, by omega, by go_num, HN.out.1, HN.out.2⟩
                  case measure => simp [intOf]; omega
            · have hsi : ((g.s : Int) == (s : Int)) = false := by simp; omega
              have HN : Hid (RB w.heap.size 512 (fun j => layAll x.first (x.log.take (k + 1)) (s * 512 + j)) wr ∧ Below w.heap.size w wr) := ⟨hr.congr (fun j hj => by
                rw [HTK.out, lay, if_neg (by omega)]), hb⟩
              clear hr hb hle e1 e2 hg
              go_wp2_with fail
              go_roundw
              case rel => exact ⟨k + 1, by omega, by go_num, HN.out.1, HN.out.2⟩
              case measure => simp [intOf]; omega
          · have hke : k = ll := by omega
            have hown : wr.ownsRow w.heap.size 5 1 (.slice (some ⟨w.heap.size, 0, none⟩) 512 512) 512 ((secL x.b s).map B) := hr.own (Nat.le_refl _) (by unfold maxLen; omega) (secL_len _ _) (fun j hj => by
              rw [secL_getD _ _ _ hj]
              show layAll x.first x.log (s * 512 + j) = _
              rw [List.take_of_length_le (by rw [hke, HLE.out]; exact Nat.le_refl _)])
            have HF : Hid (wr.ownsRow w.heap.size 5 1 (.slice (some ⟨w.heap.size, 0, none⟩) 512 512) 512 ((secL x.b s).map B) ∧ Below w.heap.size w wr) := ⟨hown, hb⟩
            clear hr hb hown
            subst hke
            go_wp2_with fail
            go_ret
            exact ⟨_, rfl, HF.out.1, HF.out.2⟩
end
end Go.Proofs.Ytlajcaofpmjdlaa
