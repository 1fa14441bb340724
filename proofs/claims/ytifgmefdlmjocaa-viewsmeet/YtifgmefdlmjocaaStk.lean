import Derived.Test.YtifgmefdlmjocaaGk
import Derived.Deep.Cut
namespace Go.Proofs.Ytifgmefdlmjocaa
open Go.RowKit Go.PlainAid Go.MapKept
set_option linter.unusedVariables false
set_option linter.unusedSimpArgs false
set_option maxRecDepth 100000 in
set_option maxHeartbeats 6400000 in
theorem stepK_any {L tb vr vc n r : Nat} {hb mb : Nat → Nat} {LV : Nat → List Ent} {hv : Nat → Value} {Hs : Nat → List Ent} {sv : Value} (kd who a nn d u h : Int) (w : World) (hkd : wx kd 3 = 0) (hkr : -9223372036854775808 ≤ kd ∧ kd ≤ 9223372036854775807) (hT : TG L tb vr vc n hb mb LV hv Hs sv w) (hn : 2 ≤ n ∧ n ≤ 8) (hrn : r < n) (hwho : wx who (n : Int) = (r : Int)) (hL : (LV r).length ≤ 100000) (hvv : ∀ e ∈ LV r, 1 ≤ e.v ∧ e.v ≤ 1000000) (hHs : ∀ k, k < 32 → (Hs k).length ≤ 100000)
    (hr : (-9223372036854775808 ≤ nn ∧ nn ≤ 9223372036854775807) ∧ (-9223372036854775808 ≤ d ∧ d ≤ 9223372036854775807) ∧ (-9223372036854775808 ≤ u ∧ u ≤ 9223372036854775807) ∧ (-9223372036854775808 ≤ h ∧ h ≤ 9223372036854775807) ∧ (-9223372036854775808 ≤ who ∧ who ≤ 9223372036854775807))
    (hcode : tellCode (r : Int) (LV r) ⟨(r : Int), nm4 (wx nn 4).toNat, 100, 0, 1, wx d 31, wx u 31, wx h 31⟩ = 0) :
    Calls Try.prog 12 #[.pointer (some ⟨tb, 0, none⟩), .agg #[.int .i64 kd, .int .i64 who, .int .i64 a, .int .i64 nn, .int .i64 d, .int .i64 u, .int .i64 h]] w fun e w' => e = .returned (.bool true) ∧ Chg (TB tb (mb r) hv) w w' ∧ ∃ hv', TG L tb vr vc n hb mb (updL LV r (tellNext (r : Int) (LV r) ⟨(r : Int), nm4 (wx nn 4).toNat, 100, 0, 1, wx d 31, wx u 31, wx h 31⟩)) hv' (updL Hs (r * 4 + (wx nn 4).toNat) (hadNext (Hs (r * 4 + (wx nn 4).toNat)) ⟨0, nm4 (wx nn 4).toNat, 100, 0, 0, wx d 31, wx u 31, wx h 31⟩)) sv w' ∧ ∀ k, k < 32 → ∀ b, (hv' k).ownBlock = some b → (hv k).ownBlock = some b ∨ w.heap.size ≤ b := by
  have i1 := wx_in nn 4 (by decide)
  have i2 := wx_in d 31 (by decide)
  have i3 := wx_in u 31 (by decide)
  have i4 := wx_in h 31 (by decide)
  have hw0 : ∀ W, Calls Try.prog 10 #[.int .i64 who, .int .i64 0, .int .i64 ((n : Int) - 1)] W fun e w' => e = .returned (.int .i64 (r : Int)) ∧ w' = W := fun W => by
    have := within_any who 0 ((n : Int) - 1) W (by omega) (by omega) (by omega) (by omega) (by omega)
    rw [show (0 : Int) + wx who ((n : Int) - 1 - 0 + 1) = (r : Int) from by rw [Int.zero_add, show (n : Int) - 1 - 0 + 1 = (n : Int) from by omega]; exact hwho] at this
    exact this
  have hw2 : ∀ W, Calls Try.prog 10 #[.int .i64 kd, .int .i64 0, .int .i64 2] W fun e w' => e = .returned (.int .i64 0) ∧ w' = W := fun W => by
    have := within_any kd 0 2 W (by omega) (by omega) (by omega) (by omega) (by omega)
    rw [show (0 : Int) + wx kd (2 - 0 + 1) = 0 from by rw [Int.zero_add]; exact hkd] at this
    exact this
  obtain ⟨kk, hkk⟩ : ∃ kk : Nat, wx nn 4 = kk := ⟨(wx nn 4).toNat, by omega⟩
  have hw3 : ∀ W, Calls Try.prog 10 #[.int .i64 nn, .int .i64 0, .int .i64 3] W fun e w' => e = .returned (.int .i64 (kk : Int)) ∧ w' = W := fun W => by
    have := within_any nn 0 3 W (by omega) (by omega) (by omega) (by omega) (by omega)
    rw [show (0 : Int) + wx nn (3 - 0 + 1) = kk from by rw [Int.zero_add]; exact hkk] at this
    exact this
  have hwdd : ∀ W, Calls Try.prog 10 #[.int .i64 d, .int .i64 0, .int .i64 30] W fun e w' => e = .returned (.int .i64 (wx d 31)) ∧ w' = W := fun W => by
    have := within_any d 0 30 W (by omega) (by omega) (by omega) (by omega) (by omega)
    rw [show (0 : Int) + wx d (30 - 0 + 1) = wx d 31 from by rw [Int.zero_add]; rfl] at this
    exact this
  have hwuu : ∀ W, Calls Try.prog 10 #[.int .i64 u, .int .i64 0, .int .i64 30] W fun e w' => e = .returned (.int .i64 (wx u 31)) ∧ w' = W := fun W => by
    have := within_any u 0 30 W (by omega) (by omega) (by omega) (by omega) (by omega)
    rw [show (0 : Int) + wx u (30 - 0 + 1) = wx u 31 from by rw [Int.zero_add]; rfl] at this
    exact this
  have hwhh : ∀ W, Calls Try.prog 10 #[.int .i64 h, .int .i64 0, .int .i64 30] W fun e w' => e = .returned (.int .i64 (wx h 31)) ∧ w' = W := fun W => by
    have := within_any h 0 30 W (by omega) (by omega) (by omega) (by omega) (by omega)
    rw [show (0 : Int) + wx h (30 - 0 + 1) = wx h 31 from by rw [Int.zero_add]; rfl] at this
    exact this
  have hk4 : kk < 4 := by omega
  have hj4 : r * 4 + kk < 32 := by omega
  have hr8 : r < 8 := by omega
  rw [hkk, Int.toNat_natCast] at hcode ⊢
  clear hkk i1
  generalize wx d 31 = dd at *
  generalize wx u 31 = uu at *
  generalize wx h 31 = hh at *
  obtain ⟨nm, hnm⟩ : ∃ nm, nm = nm4 kk := ⟨_, rfl⟩
  have hnl : nm.length ≤ 2 := by
    rw [hnm]
    match kk, hk4 with
    | 0, _ => decide
    | 1, _ => decide
    | 2, _ => decide
    | 3, _ => decide
  have hidx : ∀ wr : World, ((Instr.index 49 (.agg #[.string ⟨#[97]⟩, .string ⟨#[98]⟩, .string ⟨#[98, 98]⟩, .string ⟨#[126]⟩]) (.int .i64 (kk : Int))).run Try.prog wr).andThen (fun v w => .ok (Next.value v) w) = .ok (.value (.string ⟨nm.toArray⟩)) wr := fun wr => by
    rw [hnm]
    have h4 : kk = 0 ∨ kk = 1 ∨ kk = 2 ∨ kk = 3 := by omega
    rcases h4 with rfl | rfl | rfl | rfl <;> first | rfl | (simp [go_sem, nm4]; done) | (simp [go_sem, Instr.index, nm4]; done)
  rw [← hnm] at hcode ⊢
  clear hnm
  have hte : ∀ W, Vw (hb r) (mb r) (r : Int) n (LV r) W → Calls Try.prog 22 #[.pointer (some ⟨(hb r), 0, none⟩), .string ⟨nm.toArray⟩, .int .i64 100, .int .i64 0, .agg #[.int .i64 dd, .int .i64 uu], .int .i64 hh] W fun q w' => q = .returned (.int .i64 0) ∧ Vw (hb r) (mb r) (r : Int) n (tellNext (r : Int) (LV r) ⟨(r : Int), nm, 100, 0, 1, dd, uu, hh⟩) w' ∧ Chg (fun k => k = mb r) W w' := fun W hV => by
    have := tell_any nm 100 0 dd uu hh W hV hL ⟨show nm.length ≤ _ by omega, ⟨by show (_ : Int) ≤ 100; decide, by show (100 : Int) ≤ _; decide⟩, ⟨by show (_ : Int) ≤ dd; omega, by show dd ≤ _; omega⟩, ⟨by show (_ : Int) ≤ uu; omega, by show uu ≤ _; omega⟩⟩ hvv
    rw [hcode] at this
    exact this
  obtain ⟨LN, hLN⟩ : ∃ LN, LN = tellNext (r : Int) (LV r) ⟨(r : Int), nm, 100, 0, 1, dd, uu, hh⟩ := ⟨_, rfl⟩
  rw [← hLN] at hte ⊢
  have HTE : Hid _ := hte
  have HT0 : Hid _ := hT
  have HHS : Hid _ := hHs
  have HDX : Hid _ := hidx
  have H1 : Hid _ := hwdd
  have H2 : Hid _ := hwuu
  have H3 : Hid _ := hwhh
  obtain ⟨C0, hb0, c00, ck0, cs0⟩ := hT.tk
  have t0 : w.cell? ⟨tb, 0, none⟩ = some (.slice (some ⟨vr, 0, none⟩) n vc) := (hb0.cell 0).trans c00
  have hgs : Below w.heap.size w (w.alloc (.cells #[.int .i64 kd, .int .i64 who, .int .i64 a, .int .i64 nn, .int .i64 d, .int .i64 u, .int .i64 h] 29)) := (Below.refl _ _).alloc (Nat.le_refl _) _
  have hsb : Blk (w.alloc (.cells #[.int .i64 kd, .int .i64 who, .int .i64 a, .int .i64 nn, .int .i64 d, .int .i64 u, .int .i64 h] 29)) w.heap.size #[.int .i64 kd, .int .i64 who, .int .i64 a, .int .i64 nn, .int .i64 d, .int .i64 u, .int .i64 h] 29 := heap_alloc_new w _
  have t1 : (w.alloc (.cells #[.int .i64 kd, .int .i64 who, .int .i64 a, .int .i64 nn, .int .i64 d, .int .i64 u, .int .i64 h] 29)).cell? ⟨tb, 0, none⟩ = some (.slice (some ⟨vr, 0, none⟩) n vc) := (hgs.cell (p := ⟨tb, 0, none⟩) (World.block_lt_of_cell? w _ t0)).trans t0
  have hwn : IntKind.i64.wrap ((n : Int) - 1) = (n : Int) - 1 := by rw [IntKind.wrap_i64]; omega
  have HT1 : Hid _ := hT.more hgs
  have HSB0 : Hid _ := hsb
  have HBL0 : Hid (Chg (TB tb (mb r) hv) w (w.alloc (.cells #[.int .i64 kd, .int .i64 who, .int .i64 a, .int .i64 nn, .int .i64 d, .int .i64 u, .int .i64 h] 29))) := Chg.ofBelow _ hgs
  have HWX : Hid (w.heap.size ≤ (w.alloc (.cells #[.int .i64 kd, .int .i64 who, .int .i64 a, .int .i64 nn, .int .i64 d, .int .i64 u, .int .i64 h] 29)).heap.size) := hgs.size
  have HN : Hid _ := hn
  clear hte hT hHs hidx hwdd hwuu hwhh hb0 c00 ck0 cs0 t0 hgs hsb hL hvv hr hcode hLN C0 hn hkd hkr
  go_enter Try.func12, Try.ntmps12
  go_wp2_with fail
  refine (hw0 _).mono ?_
  rintro e w' ⟨rfl, hw'⟩
  replace hw' := hw'.symm
  subst hw'
  go_wp2_with fail
  refine (hw2 _).mono ?_
  rintro e w' ⟨rfl, hw'⟩
  replace hw' := hw'.symm
  subst hw'
  go_wp2_with fail
  refine (hw3 _).mono ?_
  rintro e w' ⟨rfl, hw'⟩
  replace hw' := hw'.symm
  subst hw'
  go_wp2_with fail
  have HSB := HSB0.out
  clear hw0 hw2 hw3 t1 HSB0 hwn
  generalize w.alloc (.cells #[.int .i64 kd, .int .i64 who, .int .i64 a, .int .i64 nn, .int .i64 d, .int .i64 u, .int .i64 h] 29) = X at *
  obtain ⟨sb, hsbe⟩ : ∃ sb, sb = w.heap.size := ⟨_, rfl⟩
  rw [← hsbe] at HSB ⊢
  clear hsbe
  have HLX : Hid (L ≤ X.heap.size) := HT1.out.low
  rename_i K hK
  try rw [show ∀ a : Act, a.put none undef = a from fun _ => rfl]
  have hrest : ∀ (a : Act) (f' : Nat → Value) (Y : World) (bx : Nat), Fr 197 a f' → f' 0 = Value.pointer (some ⟨tb, 0, none⟩) → f' 6 = Value.int .i64 (r : Int) → f' 7 = Value.int .i64 (kk : Int) → f' 8 = Value.pointer (some ⟨bx, 0, none⟩) → Blk Y bx #[.string ⟨nm.toArray⟩, .int .i64 100, .int .i64 0, .int .i64 0, .int .i64 dd, .int .i64 uu, .int .i64 hh] 46 → X.heap.size ≤ bx → Below X.heap.size X Y → K a Y := by
    intro a f' Y bx F' k0 k6 k7 k8 hBx hlx hCx
    refine hK _ _ ?_
    rw [F'.lit, show ((List.range 197).map f').toArray = #[f' 0, f' 1, f' 2, f' 3, f' 4, f' 5, f' 6, f' 7, f' 8, f' 9, f' 10, f' 11, f' 12, f' 13, f' 14, f' 15, f' 16, f' 17, f' 18, f' 19, f' 20, f' 21, f' 22, f' 23, f' 24, f' 25, f' 26, f' 27, f' 28, f' 29, f' 30, f' 31, f' 32, f' 33, f' 34, f' 35, f' 36, f' 37, f' 38, f' 39, f' 40, f' 41, f' 42, f' 43, f' 44, f' 45, f' 46, f' 47, f' 48, f' 49, f' 50, f' 51, f' 52, f' 53, f' 54, f' 55, f' 56, f' 57, f' 58, f' 59, f' 60, f' 61, f' 62, f' 63, f' 64, f' 65, f' 66, f' 67, f' 68, f' 69, f' 70, f' 71, f' 72, f' 73, f' 74, f' 75, f' 76, f' 77, f' 78, f' 79, f' 80, f' 81, f' 82, f' 83, f' 84, f' 85, f' 86, f' 87, f' 88, f' 89, f' 90, f' 91, f' 92, f' 93, f' 94, f' 95, f' 96, f' 97, f' 98, f' 99, f' 100, f' 101, f' 102, f' 103, f' 104, f' 105, f' 106, f' 107, f' 108, f' 109, f' 110, f' 111, f' 112, f' 113, f' 114, f' 115, f' 116, f' 117, f' 118, f' 119, f' 120, f' 121, f' 122, f' 123, f' 124, f' 125, f' 126, f' 127, f' 128, f' 129, f' 130, f' 131, f' 132, f' 133, f' 134, f' 135, f' 136, f' 137, f' 138, f' 139, f' 140, f' 141, f' 142, f' 143, f' 144, f' 145, f' 146, f' 147, f' 148, f' 149, f' 150, f' 151, f' 152, f' 153, f' 154, f' 155, f' 156, f' 157, f' 158, f' 159, f' 160, f' 161, f' 162, f' 163, f' 164, f' 165, f' 166, f' 167, f' 168, f' 169, f' 170, f' 171, f' 172, f' 173, f' 174, f' 175, f' 176, f' 177, f' 178, f' 179, f' 180, f' 181, f' 182, f' 183, f' 184, f' 185, f' 186, f' 187, f' 188, f' 189, f' 190, f' 191, f' 192, f' 193, f' 194, f' 195, f' 196] from rfl, k0, k6, k7, k8]
    clear hK F' k0 k6 k7 k8 HSB HDX H1 H2 H3
    have HT : TG L tb vr vc n hb mb LV hv Hs sv Y := HT1.out.more hCx
    have hbr : ∀ k, k < 32 → ∀ b, (hv k).ownBlock = some b → b ≠ bx := fun k hk b e => by
      have := (ownsRow_lt (HT1.out.rows k hk) e).2
      omega
    have XB : VAt Y bx 0 ⟨0, nm, 100, 0, 0, dd, uu, hh⟩ := box_cells (e := ⟨0, nm, 100, 0, 0, dd, uu, hh⟩) hBx
    obtain ⟨XT, XV, XX1⟩ := HT.cellr hrn
    clear XX1
    obtain ⟨nm1, nm2, nm9⟩ := HT.rowm (HT.vs r hrn).map
    clear nm9
    have nm3 : ¬ bx = mb r := (HT.vs r hrn).map.ne_b hBx
    have hn0 : 0 < n := by have := HN.out; omega
    have HBY : Hid (Chg (TB tb (mb r) hv) w Y) := HBL0.out.trans (Chg.ofBelow (TB tb (mb r) hv) hCx) (fun _ _ e => e)
    clear HT1 HBL0 hCx
    go_wp2_with fail
    rename_i K hK
    try rw [show ∀ a : Act, a.put none undef = a from fun _ => rfl]
    refine wp_region_mix (fun wq => wq.cell? ⟨tb, 0, none⟩ = some (.slice (some ⟨vr, 0, none⟩) n vc) ∧ wq.cell? ⟨vr, r, none⟩ = some (Ptr (hb r)) ∧ VAt wq bx 0 ⟨0, nm, 100, 0, 0, dd, uu, hh⟩) (fun i => i == 15 || i == 99) 99 (by kernel_rfl) rfl (by kernel_rfl) (by kernel_rfl) (by kernel_rfl) ?_
    refine withFrP (N := 197) rfl ?_
    intro f0 F0 hff
    have e0 : f0 0 = Value.pointer (some ⟨tb, 0, none⟩) := hff 0
    have e6 : f0 6 = Value.int .i64 (r : Int) := hff 6
    have e8 : f0 8 = Value.pointer (some ⟨bx, 0, none⟩) := hff 8
    clear hff
    have HCC : (fun wq => wq.cell? ⟨tb, 0, none⟩ = some (.slice (some ⟨vr, 0, none⟩) n vc) ∧ wq.cell? ⟨vr, r, none⟩ = some (Ptr (hb r)) ∧ VAt wq bx 0 ⟨0, nm, 100, 0, 0, dd, uu, hh⟩) (({ Y with drawn := Y.drawn + 1 } : World)) := ⟨XT, XV, XB.keep rfl⟩
    refine lyp F0 rfl HCC rfl (by omega) (wanted_none rfl) (v := Value.pointer (some ⟨tb, 0, none⟩)) (fun wr hwr => by simp only [execOp, (F0.eval 0 (by omega)).trans (show _ = Value.pointer (some ⟨tb, 0, none⟩) from by simp [upd, e0, e6, e8])]; first | rfl | simp [go_sem]) fun F1 => ?_
    refine lyp F1 rfl HCC rfl (by omega) (wanted_none rfl) (v := Value.pointer (some ⟨tb, 0, none⟩)) (fun wr hwr => by simp only [execOp, (F1.eval 48 (by omega)).trans (show _ = Value.pointer (some ⟨tb, 0, none⟩) from by simp [upd, e0, e6, e8])]; simp [go_sem]) fun F2 => ?_
    refine lyp F2 rfl HCC rfl (by omega) (wanted_none rfl) (v := Value.pointer (some ⟨tb, 0, none⟩)) (fun wr hwr => by simp only [execOp, (F2.eval 49 (by omega)).trans (show _ = Value.pointer (some ⟨tb, 0, none⟩) from by simp [upd, e0, e6, e8])]; simp [go_sem]) fun F3 => ?_
    refine lyp F3 rfl HCC rfl (by omega) (wanted_none rfl) (v := Value.slice (some ⟨vr, 0, none⟩) n vc) (fun wr hwr => by simp only [execOp, (F3.eval 50 (by omega)).trans (show _ = Value.pointer (some ⟨tb, 0, none⟩) from by simp [upd, e0, e6, e8])]; simp [go_sem, hwr.1]) fun F4 => ?_
    refine lyp F4 rfl HCC rfl (by omega) (wanted_none rfl) (v := Value.int .i64 (r : Int)) (fun wr hwr => by simp only [execOp, (F4.eval 6 (by omega)).trans (show _ = Value.int .i64 (r : Int) from by simp [upd, e0, e6, e8])]; first | rfl | simp [go_sem]) fun F5 => ?_
    refine lyp F5 rfl HCC rfl (by omega) (wanted_none rfl) (v := Value.pointer (some ⟨vr, r, none⟩)) (fun wr hwr => by simp only [execOp, (F5.eval 51 (by omega)).trans (show _ = Value.slice (some ⟨vr, 0, none⟩) n vc from by simp [upd, e0, e6, e8]), (F5.eval 52 (by omega)).trans (show _ = Value.int .i64 (r : Int) from by simp [upd, e0, e6, e8])]; simp [go_sem, hrn]) fun F6 => ?_
    refine lyp F6 rfl HCC rfl (by omega) (wanted_none rfl) (v := Value.pointer (some ⟨(hb r), 0, none⟩)) (fun wr hwr => by simp only [execOp, (F6.eval 53 (by omega)).trans (show _ = Value.pointer (some ⟨vr, r, none⟩) from by simp [upd, e0, e6, e8])]; simp [go_sem, show wr.cell? ⟨vr, r, none⟩ = some (.pointer (some ⟨(hb r), 0, none⟩)) from hwr.2.1]) fun F7 => ?_
    refine lyp F7 rfl HCC rfl (by omega) (wanted_none rfl) (v := Value.pointer (some ⟨bx, 0, none⟩)) (fun wr hwr => by simp only [execOp, (F7.eval 8 (by omega)).trans (show _ = Value.pointer (some ⟨bx, 0, none⟩) from by simp [upd, e0, e6, e8])]; simp [go_sem]) fun F8 => ?_
    refine lyp F8 rfl HCC rfl (by omega) (wanted_none rfl) (v := Value.string ⟨nm.toArray⟩) (fun wr hwr => by simp only [execOp, (F8.eval 55 (by omega)).trans (show _ = Value.pointer (some ⟨bx, 0, none⟩) from by simp [upd, e0, e6, e8])]; simp [go_sem, hwr.2.2.c0]) fun F9 => ?_
    refine lyp F9 rfl HCC rfl (by omega) (wanted_none rfl) (v := Value.pointer (some ⟨bx, 1, none⟩)) (fun wr hwr => by simp only [execOp, (F9.eval 8 (by omega)).trans (show _ = Value.pointer (some ⟨bx, 0, none⟩) from by simp [upd, e0, e6, e8])]; simp [go_sem]) fun F10 => ?_
    refine lyp F10 rfl HCC rfl (by omega) (wanted_none rfl) (v := Value.int .i64 100) (fun wr hwr => by simp only [execOp, (F10.eval 57 (by omega)).trans (show _ = Value.pointer (some ⟨bx, 1, none⟩) from by simp [upd, e0, e6, e8])]; simp [go_sem, hwr.2.2.c1]) fun F11 => ?_
    refine lyp F11 rfl HCC rfl (by omega) (wanted_none rfl) (v := Value.pointer (some ⟨bx, 4, none⟩)) (fun wr hwr => by simp only [execOp, (F11.eval 8 (by omega)).trans (show _ = Value.pointer (some ⟨bx, 0, none⟩) from by simp [upd, e0, e6, e8])]; simp [go_sem]) fun F12 => ?_
    refine lyp F12 rfl HCC rfl (by omega) (wanted_none rfl) (v := Value.agg #[.int .i64 dd, .int .i64 uu]) (fun wr hwr => by simp only [execOp, (F12.eval 59 (by omega)).trans (show _ = Value.pointer (some ⟨bx, 4, none⟩) from by simp [upd, e0, e6, e8])]; simp [go_sem, hwr.2.2.c4, hwr.2.2.c5]) fun F13 => ?_
    refine lyp F13 rfl HCC rfl (by omega) (wanted_none rfl) (v := Value.pointer (some ⟨bx, 6, none⟩)) (fun wr hwr => by simp only [execOp, (F13.eval 8 (by omega)).trans (show _ = Value.pointer (some ⟨bx, 0, none⟩) from by simp [upd, e0, e6, e8])]; simp [go_sem]) fun F14 => ?_
    refine lyp F14 rfl HCC rfl (by omega) (wanted_none rfl) (v := Value.int .i64 hh) (fun wr hwr => by simp only [execOp, (F14.eval 61 (by omega)).trans (show _ = Value.pointer (some ⟨bx, 6, none⟩) from by simp [upd, e0, e6, e8])]; simp [go_sem, hwr.2.2.c6]) fun F15 => ?_
    refine lcp F15 rfl HCC rfl (by omega) (wanted_none rfl) (g := 22) (args := #[Value.pointer (some ⟨(hb r), 0, none⟩), Value.string ⟨nm.toArray⟩, Value.int .i64 100, .int .i64 0, Value.agg #[.int .i64 dd, .int .i64 uu], Value.int .i64 hh]) (by simp only [execOp, resolve, invoke, List.map_toArray, List.map_cons, List.map_nil, (F15.eval 54 (by omega)).trans (show _ = Value.pointer (some ⟨(hb r), 0, none⟩) from by simp [upd, e0, e6, e8]), (F15.eval 56 (by omega)).trans (show _ = Value.string ⟨nm.toArray⟩ from by simp [upd, e0, e6, e8]), (F15.eval 58 (by omega)).trans (show _ = Value.int .i64 100 from by simp [upd, e0, e6, e8]), (F15.eval 60 (by omega)).trans (show _ = Value.agg #[.int .i64 dd, .int .i64 uu] from by simp [upd, e0, e6, e8]), (F15.eval 62 (by omega)).trans (show _ = Value.int .i64 hh from by simp [upd, e0, e6, e8])]; simp [go_sem, Act.eval]) (HTE.out (({ Y with drawn := Y.drawn + 1 } : World)) ⟨show Blk _ (hb r) _ 76 from (HT.vs r hrn).blk, (HT.vs r hrn).map.same rfl⟩) ?_
    rintro e w6 ⟨rfl, hV6, hc6⟩
    refine ⟨_, rfl, fun F16 => ?_⟩
    have HC6 : (fun wq => wq.cell? ⟨tb, 0, none⟩ = some (.slice (some ⟨vr, 0, none⟩) n vc) ∧ wq.cell? ⟨vr, r, none⟩ = some (Ptr (hb r)) ∧ VAt wq bx 0 ⟨0, nm, 100, 0, 0, dd, uu, hh⟩) w6 := ⟨(World.cell?_of_block (w := Y) (hc6.block tb (World.block_lt_of_cell? Y _ XT) nm1)).trans XT, (World.cell?_of_block (w := Y) (hc6.block vr (World.block_lt_of_cell? Y _ XV) nm2)).trans XV, XB.keep (hc6.block bx XB.lt nm3)⟩
    refine lyp F16 rfl HC6 rfl (by omega) (wanted_none rfl) (v := Value.bool false) (fun wr hwr => by simp only [execOp, (F16.eval 63 (by omega)).trans (show _ = Value.int .i64 0 from by simp [upd, e0, e6, e8])]; simp [go_sem, Act.eval]) fun F17 => ?_
    refine ⟨fun _ => HC6, ?_⟩
    refine hK _ _ ?_
    clear F0 F1 F2 F3 F4 F5 F6 F7 F8 F9 F10 F11 F12 F13 F14 F15 F16 F17 e0 e6 e8 HCC
    simp only [Act.put, List.setIfInBounds_toArray, List.set_cons_succ, List.set_cons_zero]
    have HT6 := (HT.more (Below.drew (Below.refl Y.heap.size Y))).tell hrn hV6 hc6
    have HB6 : Hid (Chg (TB tb (mb r) hv) w w6) := Chg.trans (HBY.out.drewN 1) hc6 (fun j _ e => Or.inr (Or.inl e))
    have hB6 : Blk w6 bx #[.string ⟨nm.toArray⟩, .int .i64 100, .int .i64 0, .int .i64 0, .int .i64 dd, .int .i64 uu, .int .i64 hh] 46 := hc6.blk (show Blk ({ Y with drawn := Y.drawn + 1 } : World) bx #[.string ⟨nm.toArray⟩, .int .i64 100, .int .i64 0, .int .i64 0, .int .i64 dd, .int .i64 uu, .int .i64 hh] 46 from hBx) nm3
    clear HC6 hc6 hV6 HT XB XT XV nm1 nm2 nm3 HBY hBx HTE
    obtain ⟨ln, hlnH⟩ : ∃ ln, (Hs (r * 4 + kk)).length = ln := ⟨_, rfl⟩
    have hln : ln ≤ 100000 := by rw [← hlnH]; exact HHS.out (r * 4 + kk) hj4
    obtain ⟨ao, cap, hvk, hvk9⟩ := own_slice (HT6.rows (r * 4 + kk) hj4)
    clear hvk9
    rw [hlnH] at hvk
    have tkk := (HT6.cellr hrn).2.2 (r * 4 + kk) hj4
    rw [hvk] at tkk
    have tkk2 : w6.cell? ⟨tb, 1 + r * 4 + kk, none⟩ = some (.slice ao ln cap) := by rw [Nat.add_assoc]; exact tkk
    have fz := hB6.frozen 3
    have cz : w6.cell? ⟨bx, 3, none⟩ = some (.int .i64 0) := hB6.cell 3
    have hwl : IntKind.i64.wrap ((ln : Int) + 1) = (ln : Int) + 1 := by rw [IntKind.wrap_i64]; omega
    have HT7 := HT6.box (j := 3) (v := .int .i64 ((ln : Int) + 1)) hB6 hbr
    have hB7 : Blk (w6.setCell ⟨bx, 3, none⟩ (.int .i64 ((ln : Int) + 1))) bx #[.string ⟨nm.toArray⟩, .int .i64 100, .int .i64 0, .int .i64 ((ln : Int) + 1), .int .i64 dd, .int .i64 uu, .int .i64 hh] 46 := hB6.set 3 (.int .i64 ((ln : Int) + 1))
    have HB7 : Hid (Chg (TB tb (mb r) hv) w (w6.setCell ⟨bx, 3, none⟩ (.int .i64 ((ln : Int) + 1)))) := HB6.out.trans (show Chg (fun b => b = bx) w6 (w6.setCell ⟨bx, 3, none⟩ (.int .i64 ((ln : Int) + 1))) from ⟨rfl, rfl, rfl, by simp [World.setCell], fun k hk hn => Below.heap_setCell _ _ _ _ hn⟩) (fun j hj e => by have := HWX.out; omega)
    have HHT7 : Hid _ := HT7
    have HHB7 : Hid _ := hB7
    clear HT6 hB6 HB6 HT7 hB7
    by_cases hl0 : ln = 0
    · have hl0' : ¬ 0 < (ln : Int) := by omega
      have HNX : Hid (hadNext (Hs (r * 4 + kk)) ⟨0, nm, 100, 0, 0, dd, uu, hh⟩ = Hs (r * 4 + kk) ++ [⟨0, nm, 100, 0, ((ln : Int) + 1), dd, uu, hh⟩]) := show hadNext (Hs (r * 4 + kk)) ⟨0, nm, 100, 0, 0, dd, uu, hh⟩ = Hs (r * 4 + kk) ++ [⟨0, nm, 100, 0, ((ln : Int) + 1), dd, uu, hh⟩] from by rw [← hlnH]; exact hadNext_nil (by omega)
      clear hl0
      go_wp2_with fail
      clear fz cz tkk tkk2
      have HBZ := HB7
      have hBZ := HHB7.out
      have HT7 := HHT7.out
      clear HHB7 HHT7 HB7
      generalize w6.setCell ⟨bx, 3, none⟩ (.int .i64 ((ln : Int) + 1)) = Z at *
      have HTZ := HT7
      have ZB : VAt Z bx 0 ⟨0, nm, 100, 0, ((ln : Int) + 1), dd, uu, hh⟩ := box_cells (e := ⟨0, nm, 100, 0, ((ln : Int) + 1), dd, uu, hh⟩) hBZ
      have ZR : World.ownsRow Z L 46 7 (.slice ao ln cap) ln (flatV (Hs (r * 4 + kk))) := by
        have := HTZ.rows (r * 4 + kk) hj4
        rw [hvk, hlnH] at this
        exact this
      obtain ⟨CZ, ZT, ZT0, ZCk, ZSV⟩ := HTZ.tk
      have ZC := ZCk (r * 4 + kk) hj4
      rw [hvk] at ZC
      have ZL : L ≤ Z.heap.size := HTZ.low
      have ZTB : bx ≠ tb := fun e => Blk.ne_t hBZ ZT (by decide) e
      have ZBR : ∀ b, (Value.slice ao ln cap).ownBlock = some b → b ≠ bx := fun b e => hbr (r * 4 + kk) hj4 b (by rw [hvk]; exact e)
      clear ZCk ZT0 ZSV
      try rw [show ∀ a : Act, a.put none undef = a from fun _ => rfl]
      refine wp_region_mix (fun wq => VAt wq bx 0 ⟨0, nm, 100, 0, ((ln : Int) + 1), dd, uu, hh⟩) (fun i => i == 5 || i == 6 || i == 11 || i == 99) 99 (by kernel_rfl) rfl (by kernel_rfl) (by kernel_rfl) (by kernel_rfl) ?_
      refine withFrP (N := 197) rfl ?_
      intro f0 F0 hff
      have e0 : f0 0 = Value.pointer (some ⟨tb, 0, none⟩) := hff 0
      have e6 : f0 6 = Value.int .i64 (r : Int) := hff 6
      have e7 : f0 7 = Value.int .i64 (kk : Int) := hff 7
      have e8 : f0 8 = Value.pointer (some ⟨bx, 0, none⟩) := hff 8
      have e9 : f0 9 = Value.slice ao ln cap := hff 9
      clear hff
      have HCC : (fun wq => VAt wq bx 0 ⟨0, nm, 100, 0, ((ln : Int) + 1), dd, uu, hh⟩) (({ Z with drawn := Z.drawn + 1 } : World)) := ZB.keep rfl
      refine lyp F0 rfl HCC rfl (by omega) (wanted_none rfl) (v := Value.pointer (some ⟨tb, 0, none⟩)) (fun wr hwr => by simp only [execOp, (F0.eval 0 (by omega)).trans (show _ = Value.pointer (some ⟨tb, 0, none⟩) from by simp [upd, e0, e6, e7, e8, e9])]; first | rfl | simp [go_sem]) fun F1 => ?_
      refine lyp F1 rfl HCC rfl (by omega) (wanted_none rfl) (v := Value.int .i64 (r : Int)) (fun wr hwr => by simp only [execOp, (F1.eval 6 (by omega)).trans (show _ = Value.int .i64 (r : Int) from by simp [upd, e0, e6, e7, e8, e9])]; first | rfl | simp [go_sem]) fun F2 => ?_
      refine lyp F2 rfl HCC rfl (by omega) (wanted_none rfl) (v := Value.int .i64 (kk : Int)) (fun wr hwr => by simp only [execOp, (F2.eval 7 (by omega)).trans (show _ = Value.int .i64 (kk : Int) from by simp [upd, e0, e6, e7, e8, e9])]; first | rfl | simp [go_sem]) fun F3 => ?_
      refine lyp F3 rfl HCC rfl (by omega) (wanted_none rfl) (v := Value.slice ao ln cap) (fun wr hwr => by simp only [execOp, (F3.eval 9 (by omega)).trans (show _ = Value.slice ao ln cap from by simp [upd, e0, e6, e7, e8, e9])]; first | rfl | simp [go_sem]) fun F4 => ?_
      refine lyp F4 rfl HCC rfl (by omega) (wanted_none rfl) (v := Value.agg #[.string ⟨nm.toArray⟩, .int .i64 100, .int .i64 0, .int .i64 ((ln : Int) + 1), .int .i64 dd, .int .i64 uu, .int .i64 hh]) (fun wr hwr => by simp only [execOp, (F4.eval 8 (by omega)).trans (show _ = Value.pointer (some ⟨bx, 0, none⟩) from by simp [upd, e0, e6, e7, e8, e9])]; simp [go_sem, hwr.c0, hwr.c1, hwr.c2, hwr.c3, hwr.c4, hwr.c5, hwr.c6]) fun F5 => ?_
      refine lep F5 rfl HCC rfl (by omega) (wanted_none rfl) (v := Value.slice (some ⟨Z.heap.size, 0, none⟩) 1 1) (w1 := (({ Z with drawn := Z.drawn + 1 } : World).alloc (.cells #[.string ⟨nm.toArray⟩, .int .i64 100, .int .i64 0, .int .i64 ((ln : Int) + 1), .int .i64 dd, .int .i64 uu, .int .i64 hh] 46))) (by simp only [execOp, List.map_toArray, List.map_cons, List.map_nil, (F5.eval 96 (by omega)).trans (show _ = Value.agg #[.string ⟨nm.toArray⟩, .int .i64 100, .int .i64 0, .int .i64 ((ln : Int) + 1), .int .i64 dd, .int .i64 uu, .int .i64 hh] from by simp [upd, e0, e6, e7, e8, e9])]; simp [go_sem]) fun F6 => ?_
      have HC2 : (fun wq => VAt wq bx 0 ⟨0, nm, 100, 0, ((ln : Int) + 1), dd, uu, hh⟩) ((({ Z with drawn := Z.drawn + 1 } : World).alloc (.cells #[.string ⟨nm.toArray⟩, .int .i64 100, .int .i64 0, .int .i64 ((ln : Int) + 1), .int .i64 dd, .int .i64 uu, .int .i64 hh] 46))) := ZB.keep (Below.heap_alloc (({ Z with drawn := Z.drawn + 1 } : World)) _ _ ZB.lt)
      obtain ⟨v5, w5, hrun, ho5, hg5⟩ := append_had (w := ({ Z with drawn := Z.drawn + 1 } : World)) (⟨0, nm, 100, 0, ((ln : Int) + 1), dd, uu, hh⟩ : Ent) (show World.ownsRow ({ Z with drawn := Z.drawn + 1 } : World) L 46 7 (.slice ao ln cap) ln (flatV (Hs (r * 4 + kk))) from ownsRow_same ZR (fun _ _ => rfl)) hln ZL 31
      obtain ⟨ao5, cap5, hv5, _⟩ := own_slice ho5
      subst hv5
      have hB5 : Blk w5 tb CZ 38 := hg5.chg.blk (show Blk ({ Z with drawn := Z.drawn + 1 } : World) tb CZ 38 from ZT) (fun e => by
        obtain ⟨cu, hcu⟩ := ownsRow_type ZR e
        exact Blk.ne_t ZT (show Blk Z tb cu 46 from hcu) (by decide) rfl)
      have hfz5 := hB5.frozen (1 + (r * 4 + kk))
      have hcz5 : w5.cell? ⟨tb, 1 + (r * 4 + kk), none⟩ = some (.slice ao ln cap) := (hB5.cell (1 + (r * 4 + kk))).trans ZC
      refine lep F6 rfl HC2 rfl (by omega) (wanted_none rfl) (v := Value.slice ao5 (ln + 1) cap5) (w1 := w5) (by simp only [execOp, resolve, invoke, builtin, List.map_toArray, List.map_cons, List.map_nil, (F6.eval 95 (by omega)).trans (show _ = Value.slice ao ln cap from by simp [upd, e0, e6, e7, e8, e9]), (F6.eval 97 (by omega)).trans (show _ = Value.slice (some ⟨Z.heap.size, 0, none⟩) 1 1 from by simp [upd, e0, e6, e7, e8, e9])]; simp only [Sem.run_bind, Sem.run_pure, Result.andThen_ok, show _ = _ from hrun]; try rfl) fun F7 => ?_
      have HC3 : (fun wq => VAt wq bx 0 ⟨0, nm, 100, 0, ((ln : Int) + 1), dd, uu, hh⟩) w5 := ZB.keep ((hg5.g.block bx ZB.lt (fun e => ZBR bx e.symm rfl)).trans rfl)
      refine lyp F7 rfl HC3 rfl (by omega) (wanted_none rfl) (v := Value.pointer (some ⟨tb, 0, none⟩)) (fun wr hwr => by simp only [execOp, (F7.eval 92 (by omega)).trans (show _ = Value.pointer (some ⟨tb, 0, none⟩) from by simp [upd, e0, e6, e7, e8, e9])]; simp [go_sem]) fun F8 => ?_
      refine lyp F8 rfl HC3 rfl (by omega) (wanted_none rfl) (v := Value.pointer (some ⟨tb, 1, none⟩)) (fun wr hwr => by simp only [execOp, (F8.eval 99 (by omega)).trans (show _ = Value.pointer (some ⟨tb, 0, none⟩) from by simp [upd, e0, e6, e7, e8, e9])]; simp [go_sem]) fun F9 => ?_
      refine lyp F9 rfl HC3 rfl (by omega) (wanted_none rfl) (v := Value.pointer (some ⟨tb, 1 + r * 4, none⟩)) (fun wr hwr => by simp only [execOp, (F9.eval 100 (by omega)).trans (show _ = Value.pointer (some ⟨tb, 1, none⟩) from by simp [upd, e0, e6, e7, e8, e9]), (F9.eval 93 (by omega)).trans (show _ = Value.int .i64 (r : Int) from by simp [upd, e0, e6, e7, e8, e9])]; simp [go_sem, hr8, show ¬ (8 : Int) ≤ (r : Int) from by omega]) fun F10 => ?_
      refine lyp F10 rfl HC3 rfl (by omega) (wanted_none rfl) (v := Value.pointer (some ⟨tb, 1 + (r * 4 + kk), none⟩)) (fun wr hwr => by simp only [execOp, (F10.eval 101 (by omega)).trans (show _ = Value.pointer (some ⟨tb, 1 + r * 4, none⟩) from by simp [upd, e0, e6, e7, e8, e9]), (F10.eval 94 (by omega)).trans (show _ = Value.int .i64 (kk : Int) from by simp [upd, e0, e6, e7, e8, e9])]; simp [go_sem, hk4, show ¬ (4 : Int) ≤ (kk : Int) from by omega, Nat.add_assoc]) fun F11 => ?_
      refine lst rfl HC3 rfl (wanted_none rfl) (w1 := w5.setCell ⟨tb, 1 + (r * 4 + kk), none⟩ (.slice ao5 (ln + 1) cap5)) (by simp only [execOp, (F11.eval 102 (by omega)).trans (show _ = Value.pointer (some ⟨tb, 1 + (r * 4 + kk), none⟩) from by simp [upd, e0, e6, e7, e8, e9]), (F11.eval 98 (by omega)).trans (show _ = Value.slice ao5 (ln + 1) cap5 from by simp [upd, e0, e6, e7, e8, e9])]; simp [go_sem, hfz5, hcz5]) ?_
      have HC4 : (fun wq => VAt wq bx 0 ⟨0, nm, 100, 0, ((ln : Int) + 1), dd, uu, hh⟩) (w5.setCell ⟨tb, 1 + (r * 4 + kk), none⟩ (.slice ao5 (ln + 1) cap5)) := HC3.keep (Below.heap_setCell _ _ _ _ ZTB)
      refine ⟨fun _ => HC4, ?_⟩
      clear F0 F1 F2 F3 F4 F5 F6 F7 F8 F9 F10 F11 e0 e6 e7 e8 e9 HCC HC2 HC3 HC4 hfz5 hcz5 hrun
      simp only [Act.put, List.setIfInBounds_toArray, List.set_cons_succ, List.set_cons_zero]
      have htk := TG.had (w := ({ Z with drawn := Z.drawn + 1 } : World)) (HTZ.more (Below.drew (Below.refl _ _))) hj4 (v' := .slice ao5 (ln + 1) cap5) (e := ⟨0, nm, 100, 0, ((ln : Int) + 1), dd, uu, hh⟩) (by rw [hvk]; exact hg5) (by rw [hlnH]; exact ho5)
      have HTK : Hid _ := htk
      have HBF : Hid (Chg (TB tb (mb r) hv) w (w5.setCell ⟨tb, 1 + (r * 4 + kk), none⟩ (.slice ao5 (ln + 1) cap5))) := (Chg.trans (HBZ.out.drewN 1) hg5.chg (fun j _ e => Or.inr (Or.inr ⟨(r * 4 + kk), hj4, by rw [hvk]; exact e⟩))).trans (show Chg (fun b => b = tb) w5 (w5.setCell ⟨tb, 1 + (r * 4 + kk), none⟩ (.slice ao5 (ln + 1) cap5)) from ⟨rfl, rfl, rfl, by simp [World.setCell], fun k hk hn => Below.heap_setCell _ _ _ _ hn⟩) (fun j _ e => Or.inl e)
      have HAT : Hid (∀ b, (Value.slice ao5 (ln + 1) cap5).ownBlock = some b → (hv (r * 4 + kk)).ownBlock = some b ∨ w.heap.size ≤ b) := fun b e => by
        rcases hg5.at' b e with h | h
        · exact Or.inl (by rw [hvk]; exact h)
        · exact Or.inr (Nat.le_trans HBZ.out.size h)
      clear htk ho5 hg5 hB5 ZB ZR ZT ZC ZL ZBR HTZ
      go_wp2_with fail
      go_ret
      refine ⟨rfl, HBF.out, (fun j => if j = (r * 4 + kk) then Value.slice ao5 (ln + 1) cap5 else hv j), ?_, fun k hk b e1 => ?_⟩
      · have := HTK.out
        have hx : hadNext (Hs (r * 4 + kk)) ⟨0, nm, 100, 0, 0, dd, uu, hh⟩ = Hs (r * 4 + kk) ++ [⟨0, nm, 100, 0, ((ln : Int) + 1), dd, uu, hh⟩] := by have := HNX.out; simpa using this
        rw [← hx] at this
        exact this
      · by_cases e : k = (r * 4 + kk)
        · subst e
          simp only [if_true] at e1
          exact HAT.out b e1
        · simp only [if_neg e] at e1
          exact Or.inl e1
    · have hlp : 0 < ln := by omega
      have hlpi : (0 : Int) < (ln : Int) := by omega
      obtain ⟨lm, hlm⟩ : ∃ lm : Nat, lm + 1 = ln := ⟨ln - 1, by omega⟩
      have hl1 : lm < ln := by omega
      have hw8 : IntKind.i64.wrap ((ln : Int) - 1) = (lm : Int) := by rw [IntKind.wrap_i64]; omega
      clear hl0
      obtain ⟨el, hel⟩ : ∃ el, (Hs (r * 4 + kk))[lm]? = some el := ⟨(Hs (r * 4 + kk))[lm]'(by rw [hlnH]; exact hl1), List.getElem?_eq_getElem _⟩
      have hrw : World.ownsRow (w6.setCell ⟨bx, 3, none⟩ (.int .i64 ((ln : Int) + 1))) L 46 7 (.slice ao ln cap) ln (flatV (Hs (r * 4 + kk))) := by
        have := HHT7.out.rows (r * 4 + kk) hj4
        rw [hvk, hlnH] at this
        exact this
      obtain ⟨ao2, cap2, hv2, _, _, hfv, hat⟩ := own_fromV hrw
      obtain ⟨g, hg, _, _⟩ := hat (by rw [hlnH]; exact hlp)
      cases hv2
      subst hg
      obtain ⟨b2, off2, hbo, hcv⟩ := hfv (by rw [hlnH]; exact hlp)
      cases hbo
      obtain ⟨d0, d1, d2, d3, d4, d5, d6⟩ := hcv _ _ hel
      simp only [Nat.zero_add] at d0 d1 d2 d3 d4 d5 d6
      have HNX : Hid (hadNext (Hs (r * 4 + kk)) ⟨0, nm, 100, 0, 0, dd, uu, hh⟩ = if sameV { el with v := ((ln : Int) + 1) } ⟨0, nm, 100, 0, ((ln : Int) + 1), dd, uu, hh⟩ = true then Hs (r * 4 + kk) else Hs (r * 4 + kk) ++ [⟨0, nm, 100, 0, ((ln : Int) + 1), dd, uu, hh⟩]) := show hadNext (Hs (r * 4 + kk)) ⟨0, nm, 100, 0, 0, dd, uu, hh⟩ = (if sameV { el with v := ((ln : Int) + 1) } ⟨0, nm, 100, 0, ((ln : Int) + 1), dd, uu, hh⟩ = true then Hs (r * 4 + kk) else Hs (r * 4 + kk) ++ [⟨0, nm, 100, 0, ((ln : Int) + 1), dd, uu, hh⟩]) from by rw [← hlnH]; exact hadNext_last hel (by omega)
      clear hcv hfv hat hrw hel hlp
      go_upto_region 13 with fail
      skip
      clear d0 d1 d2 d3 d4 d5 d6 fz cz tkk tkk2
      have hgu : Below (w6.setCell ⟨bx, 3, none⟩ (.int .i64 ((ln : Int) + 1))).heap.size (w6.setCell ⟨bx, 3, none⟩ (.int .i64 ((ln : Int) + 1))) ((w6.setCell ⟨bx, 3, none⟩ (.int .i64 ((ln : Int) + 1))).alloc (.cells #[.string ⟨el.n.toArray⟩, .int .i64 el.c, .int .i64 el.rc, .int .i64 el.v, .int .i64 el.d, .int .i64 el.u, .int .i64 el.h] 46)) := (Below.refl _ _).alloc (Nat.le_refl _) _
      have hU : Blk ((w6.setCell ⟨bx, 3, none⟩ (.int .i64 ((ln : Int) + 1))).alloc (.cells #[.string ⟨el.n.toArray⟩, .int .i64 el.c, .int .i64 el.rc, .int .i64 el.v, .int .i64 el.d, .int .i64 el.u, .int .i64 el.h] 46)) (w6.setCell ⟨bx, 3, none⟩ (.int .i64 ((ln : Int) + 1))).heap.size #[.string ⟨el.n.toArray⟩, .int .i64 el.c, .int .i64 el.rc, .int .i64 el.v, .int .i64 el.d, .int .i64 el.u, .int .i64 el.h] 46 := heap_alloc_new _ _
      have hsz : (w6.setCell ⟨bx, 3, none⟩ (.int .i64 ((ln : Int) + 1))).heap.size = w6.heap.size := by simp [World.setCell]
      have hB8 := Blk.below HHB7.out hgu (Blk.lt HHB7.out)
      have HT8 := HHT7.out.more hgu
      have hub : ∀ k, k < 32 → ∀ b, (hv k).ownBlock = some b → b ≠ w6.heap.size := fun k hk b e => by
        have := (ownsRow_lt (HHT7.out.rows k hk) e).2
        rw [hsz] at this
        omega
      have HB8 : Hid (Chg (TB tb (mb r) hv) w ((w6.setCell ⟨bx, 3, none⟩ (.int .i64 ((ln : Int) + 1))).alloc (.cells #[.string ⟨el.n.toArray⟩, .int .i64 el.c, .int .i64 el.rc, .int .i64 el.v, .int .i64 el.d, .int .i64 el.u, .int .i64 el.h] 46))) := HB7.out.trans (Chg.ofBelow (TB tb (mb r) hv) hgu) (fun _ _ e => e)
      have hbu : bx ≠ w6.heap.size := fun e => by
        have := Blk.lt HHB7.out
        rw [hsz] at this
        omega
      have HLU : Hid (w.heap.size ≤ w6.heap.size) := show w.heap.size ≤ w6.heap.size from by
        have := HB7.out.size
        rw [hsz] at this
        exact this
      rw [hsz] at hU
      clear hgu hsz HHB7 HHT7 HB7
      generalize (w6.setCell ⟨bx, 3, none⟩ (.int .i64 ((ln : Int) + 1))).alloc (.cells #[.string ⟨el.n.toArray⟩, .int .i64 el.c, .int .i64 el.rc, .int .i64 el.v, .int .i64 el.d, .int .i64 el.u, .int .i64 el.h] 46) = X8 at *
      generalize w6.heap.size = ub at *
      have p3 : X8.cell? ⟨bx, 3, none⟩ = some (.int .i64 ((ln : Int) + 1)) := hB8.cell 3
      have fzu := hU.frozen 3
      have czu : X8.cell? ⟨ub, 3, none⟩ = some (.int .i64 el.v) := hU.cell 3
      have hs9 : Chg (fun b => b = ub) X8 (X8.setCell ⟨ub, 3, none⟩ (.int .i64 ((ln : Int) + 1))) := ⟨rfl, rfl, rfl, by simp [World.setCell], fun j hj hn => Below.heap_setCell _ _ _ _ hn⟩
      have hU9 := hU.set 3 (.int .i64 ((ln : Int) + 1))
      have hB9 := hs9.blk hB8 hbu
      have HT9 := HT8.box (j := 3) (v := .int .i64 ((ln : Int) + 1)) hU hub
      have HB9 : Hid (Chg (TB tb (mb r) hv) w (X8.setCell ⟨ub, 3, none⟩ (.int .i64 ((ln : Int) + 1)))) := HB8.out.trans hs9 (fun j hj e => by have := HLU.out; omega)
      obtain ⟨y0, y1, y2, y3, y4, y5, y6⟩ := box_cells (e := { el with v := ((ln : Int) + 1) }) hU9
      obtain ⟨z0, z1, z2, z3, z4, z5, z6⟩ := box_cells (e := ⟨0, nm, 100, 0, ((ln : Int) + 1), dd, uu, hh⟩) hB9
      simp only [Nat.zero_add] at y0 y1 y2 y3 y4 y5 y6 z0 z1 z2 z3 z4 z5 z6
      have HSM : Hid (∀ w, _) := fun w => same_any { el with v := ((ln : Int) + 1) } ⟨0, nm, 100, 0, ((ln : Int) + 1), dd, uu, hh⟩ w
      have HHB9 : Hid _ := hB9
      have HHT9 : Hid _ := HT9
      clear hs9 hU9 hB9 HT9 HT8 hB8 hU HB8 hub hbu HLU
      go_wp2_with fail
      skip
      refine Calls.mono (HSM.out _) ?_
      rintro e w10 ⟨rfl, hb10⟩
      have hBZ := Blk.below HHB9.out hb10 (Blk.lt HHB9.out)
      have HT10 := HHT9.out.more hb10
      have HBZ : Hid (Chg (TB tb (mb r) hv) w w10) := HB9.out.trans (Chg.ofBelow (TB tb (mb r) hv) hb10) (fun _ _ e => e)
      clear hb10 y0 y1 y2 y3 y4 y5 y6 z0 z1 z2 z3 z4 z5 z6 p3 fzu czu HSM HHB9 HHT9 HB9
      generalize sameV { el with v := ((ln : Int) + 1) } ⟨0, nm, 100, 0, ((ln : Int) + 1), dd, uu, hh⟩ = sm at *
      cases sm with
      | true =>
        have HTE2 : Hid _ := HT10
        clear HT10 hBZ
        go_wp2_with fail
        go_ret
        exact ⟨rfl, HBZ.out, hv, by rw [updL_self (show hadNext (Hs (r * 4 + kk)) ⟨0, nm, 100, 0, 0, dd, uu, hh⟩ = Hs (r * 4 + kk) from by have := HNX.out; simpa using this)]; exact HTE2.out, fun k hk b e => Or.inl e⟩
      | false =>
        go_wp2_with fail
        have HTZ := HT10
        have ZB : VAt w10 bx 0 ⟨0, nm, 100, 0, ((ln : Int) + 1), dd, uu, hh⟩ := box_cells (e := ⟨0, nm, 100, 0, ((ln : Int) + 1), dd, uu, hh⟩) hBZ
        have ZR : World.ownsRow w10 L 46 7 (.slice (some ⟨g, 0, none⟩) ln cap) ln (flatV (Hs (r * 4 + kk))) := by
          have := HTZ.rows (r * 4 + kk) hj4
          rw [hvk, hlnH] at this
          exact this
        obtain ⟨CZ, ZT, ZT0, ZCk, ZSV⟩ := HTZ.tk
        have ZC := ZCk (r * 4 + kk) hj4
        rw [hvk] at ZC
        have ZL : L ≤ w10.heap.size := HTZ.low
        have ZTB : bx ≠ tb := fun e => Blk.ne_t hBZ ZT (by decide) e
        have ZBR : ∀ b, (Value.slice (some ⟨g, 0, none⟩) ln cap).ownBlock = some b → b ≠ bx := fun b e => hbr (r * 4 + kk) hj4 b (by rw [hvk]; exact e)
        clear ZCk ZT0 ZSV
        try rw [show ∀ a : Act, a.put none undef = a from fun _ => rfl]
        refine wp_region_mix (fun wq => VAt wq bx 0 ⟨0, nm, 100, 0, ((ln : Int) + 1), dd, uu, hh⟩) (fun i => i == 5 || i == 6 || i == 11 || i == 99) 99 (by kernel_rfl) rfl (by kernel_rfl) (by kernel_rfl) (by kernel_rfl) ?_
        refine withFrP (N := 197) rfl ?_
        intro f0 F0 hff
        have e0 : f0 0 = Value.pointer (some ⟨tb, 0, none⟩) := hff 0
        have e6 : f0 6 = Value.int .i64 (r : Int) := hff 6
        have e7 : f0 7 = Value.int .i64 (kk : Int) := hff 7
        have e8 : f0 8 = Value.pointer (some ⟨bx, 0, none⟩) := hff 8
        have e9 : f0 9 = Value.slice (some ⟨g, 0, none⟩) ln cap := hff 9
        clear hff
        have HCC : (fun wq => VAt wq bx 0 ⟨0, nm, 100, 0, ((ln : Int) + 1), dd, uu, hh⟩) (({ w10 with drawn := w10.drawn + 1 } : World)) := ZB.keep rfl
        refine lyp F0 rfl HCC rfl (by omega) (wanted_none rfl) (v := Value.pointer (some ⟨tb, 0, none⟩)) (fun wr hwr => by simp only [execOp, (F0.eval 0 (by omega)).trans (show _ = Value.pointer (some ⟨tb, 0, none⟩) from by simp [upd, e0, e6, e7, e8, e9])]; first | rfl | simp [go_sem]) fun F1 => ?_
        refine lyp F1 rfl HCC rfl (by omega) (wanted_none rfl) (v := Value.int .i64 (r : Int)) (fun wr hwr => by simp only [execOp, (F1.eval 6 (by omega)).trans (show _ = Value.int .i64 (r : Int) from by simp [upd, e0, e6, e7, e8, e9])]; first | rfl | simp [go_sem]) fun F2 => ?_
        refine lyp F2 rfl HCC rfl (by omega) (wanted_none rfl) (v := Value.int .i64 (kk : Int)) (fun wr hwr => by simp only [execOp, (F2.eval 7 (by omega)).trans (show _ = Value.int .i64 (kk : Int) from by simp [upd, e0, e6, e7, e8, e9])]; first | rfl | simp [go_sem]) fun F3 => ?_
        refine lyp F3 rfl HCC rfl (by omega) (wanted_none rfl) (v := Value.slice (some ⟨g, 0, none⟩) ln cap) (fun wr hwr => by simp only [execOp, (F3.eval 9 (by omega)).trans (show _ = Value.slice (some ⟨g, 0, none⟩) ln cap from by simp [upd, e0, e6, e7, e8, e9])]; first | rfl | simp [go_sem]) fun F4 => ?_
        refine lyp F4 rfl HCC rfl (by omega) (wanted_none rfl) (v := Value.agg #[.string ⟨nm.toArray⟩, .int .i64 100, .int .i64 0, .int .i64 ((ln : Int) + 1), .int .i64 dd, .int .i64 uu, .int .i64 hh]) (fun wr hwr => by simp only [execOp, (F4.eval 8 (by omega)).trans (show _ = Value.pointer (some ⟨bx, 0, none⟩) from by simp [upd, e0, e6, e7, e8, e9])]; simp [go_sem, hwr.c0, hwr.c1, hwr.c2, hwr.c3, hwr.c4, hwr.c5, hwr.c6]) fun F5 => ?_
        refine lep F5 rfl HCC rfl (by omega) (wanted_none rfl) (v := Value.slice (some ⟨w10.heap.size, 0, none⟩) 1 1) (w1 := (({ w10 with drawn := w10.drawn + 1 } : World).alloc (.cells #[.string ⟨nm.toArray⟩, .int .i64 100, .int .i64 0, .int .i64 ((ln : Int) + 1), .int .i64 dd, .int .i64 uu, .int .i64 hh] 46))) (by simp only [execOp, List.map_toArray, List.map_cons, List.map_nil, (F5.eval 96 (by omega)).trans (show _ = Value.agg #[.string ⟨nm.toArray⟩, .int .i64 100, .int .i64 0, .int .i64 ((ln : Int) + 1), .int .i64 dd, .int .i64 uu, .int .i64 hh] from by simp [upd, e0, e6, e7, e8, e9])]; simp [go_sem]) fun F6 => ?_
        have HC2 : (fun wq => VAt wq bx 0 ⟨0, nm, 100, 0, ((ln : Int) + 1), dd, uu, hh⟩) ((({ w10 with drawn := w10.drawn + 1 } : World).alloc (.cells #[.string ⟨nm.toArray⟩, .int .i64 100, .int .i64 0, .int .i64 ((ln : Int) + 1), .int .i64 dd, .int .i64 uu, .int .i64 hh] 46))) := ZB.keep (Below.heap_alloc (({ w10 with drawn := w10.drawn + 1 } : World)) _ _ ZB.lt)
        obtain ⟨v5, w5, hrun, ho5, hg5⟩ := append_had (w := ({ w10 with drawn := w10.drawn + 1 } : World)) (⟨0, nm, 100, 0, ((ln : Int) + 1), dd, uu, hh⟩ : Ent) (show World.ownsRow ({ w10 with drawn := w10.drawn + 1 } : World) L 46 7 (.slice (some ⟨g, 0, none⟩) ln cap) ln (flatV (Hs (r * 4 + kk))) from ownsRow_same ZR (fun _ _ => rfl)) hln ZL 31
        obtain ⟨ao5, cap5, hv5, _⟩ := own_slice ho5
        subst hv5
        have hB5 : Blk w5 tb CZ 38 := hg5.chg.blk (show Blk ({ w10 with drawn := w10.drawn + 1 } : World) tb CZ 38 from ZT) (fun e => by
          obtain ⟨cu, hcu⟩ := ownsRow_type ZR e
          exact Blk.ne_t ZT (show Blk w10 tb cu 46 from hcu) (by decide) rfl)
        have hfz5 := hB5.frozen (1 + (r * 4 + kk))
        have hcz5 : w5.cell? ⟨tb, 1 + (r * 4 + kk), none⟩ = some (.slice (some ⟨g, 0, none⟩) ln cap) := (hB5.cell (1 + (r * 4 + kk))).trans ZC
        refine lep F6 rfl HC2 rfl (by omega) (wanted_none rfl) (v := Value.slice ao5 (ln + 1) cap5) (w1 := w5) (by simp only [execOp, resolve, invoke, builtin, List.map_toArray, List.map_cons, List.map_nil, (F6.eval 95 (by omega)).trans (show _ = Value.slice (some ⟨g, 0, none⟩) ln cap from by simp [upd, e0, e6, e7, e8, e9]), (F6.eval 97 (by omega)).trans (show _ = Value.slice (some ⟨w10.heap.size, 0, none⟩) 1 1 from by simp [upd, e0, e6, e7, e8, e9])]; simp only [Sem.run_bind, Sem.run_pure, Result.andThen_ok, show _ = _ from hrun]; try rfl) fun F7 => ?_
        have HC3 : (fun wq => VAt wq bx 0 ⟨0, nm, 100, 0, ((ln : Int) + 1), dd, uu, hh⟩) w5 := ZB.keep ((hg5.g.block bx ZB.lt (fun e => ZBR bx e.symm rfl)).trans rfl)
        refine lyp F7 rfl HC3 rfl (by omega) (wanted_none rfl) (v := Value.pointer (some ⟨tb, 0, none⟩)) (fun wr hwr => by simp only [execOp, (F7.eval 92 (by omega)).trans (show _ = Value.pointer (some ⟨tb, 0, none⟩) from by simp [upd, e0, e6, e7, e8, e9])]; simp [go_sem]) fun F8 => ?_
        refine lyp F8 rfl HC3 rfl (by omega) (wanted_none rfl) (v := Value.pointer (some ⟨tb, 1, none⟩)) (fun wr hwr => by simp only [execOp, (F8.eval 99 (by omega)).trans (show _ = Value.pointer (some ⟨tb, 0, none⟩) from by simp [upd, e0, e6, e7, e8, e9])]; simp [go_sem]) fun F9 => ?_
        refine lyp F9 rfl HC3 rfl (by omega) (wanted_none rfl) (v := Value.pointer (some ⟨tb, 1 + r * 4, none⟩)) (fun wr hwr => by simp only [execOp, (F9.eval 100 (by omega)).trans (show _ = Value.pointer (some ⟨tb, 1, none⟩) from by simp [upd, e0, e6, e7, e8, e9]), (F9.eval 93 (by omega)).trans (show _ = Value.int .i64 (r : Int) from by simp [upd, e0, e6, e7, e8, e9])]; simp [go_sem, hr8, show ¬ (8 : Int) ≤ (r : Int) from by omega]) fun F10 => ?_
        refine lyp F10 rfl HC3 rfl (by omega) (wanted_none rfl) (v := Value.pointer (some ⟨tb, 1 + (r * 4 + kk), none⟩)) (fun wr hwr => by simp only [execOp, (F10.eval 101 (by omega)).trans (show _ = Value.pointer (some ⟨tb, 1 + r * 4, none⟩) from by simp [upd, e0, e6, e7, e8, e9]), (F10.eval 94 (by omega)).trans (show _ = Value.int .i64 (kk : Int) from by simp [upd, e0, e6, e7, e8, e9])]; simp [go_sem, hk4, show ¬ (4 : Int) ≤ (kk : Int) from by omega, Nat.add_assoc]) fun F11 => ?_
        refine lst rfl HC3 rfl (wanted_none rfl) (w1 := w5.setCell ⟨tb, 1 + (r * 4 + kk), none⟩ (.slice ao5 (ln + 1) cap5)) (by simp only [execOp, (F11.eval 102 (by omega)).trans (show _ = Value.pointer (some ⟨tb, 1 + (r * 4 + kk), none⟩) from by simp [upd, e0, e6, e7, e8, e9]), (F11.eval 98 (by omega)).trans (show _ = Value.slice ao5 (ln + 1) cap5 from by simp [upd, e0, e6, e7, e8, e9])]; simp [go_sem, hfz5, hcz5]) ?_
        have HC4 : (fun wq => VAt wq bx 0 ⟨0, nm, 100, 0, ((ln : Int) + 1), dd, uu, hh⟩) (w5.setCell ⟨tb, 1 + (r * 4 + kk), none⟩ (.slice ao5 (ln + 1) cap5)) := HC3.keep (Below.heap_setCell _ _ _ _ ZTB)
        refine ⟨fun _ => HC4, ?_⟩
        clear F0 F1 F2 F3 F4 F5 F6 F7 F8 F9 F10 F11 e0 e6 e7 e8 e9 HCC HC2 HC3 HC4 hfz5 hcz5 hrun
        simp only [Act.put, List.setIfInBounds_toArray, List.set_cons_succ, List.set_cons_zero]
        have htk := TG.had (w := ({ w10 with drawn := w10.drawn + 1 } : World)) (HTZ.more (Below.drew (Below.refl _ _))) hj4 (v' := .slice ao5 (ln + 1) cap5) (e := ⟨0, nm, 100, 0, ((ln : Int) + 1), dd, uu, hh⟩) (by rw [hvk]; exact hg5) (by rw [hlnH]; exact ho5)
        have HTK : Hid _ := htk
        have HBF : Hid (Chg (TB tb (mb r) hv) w (w5.setCell ⟨tb, 1 + (r * 4 + kk), none⟩ (.slice ao5 (ln + 1) cap5))) := (Chg.trans (HBZ.out.drewN 1) hg5.chg (fun j _ e => Or.inr (Or.inr ⟨(r * 4 + kk), hj4, by rw [hvk]; exact e⟩))).trans (show Chg (fun b => b = tb) w5 (w5.setCell ⟨tb, 1 + (r * 4 + kk), none⟩ (.slice ao5 (ln + 1) cap5)) from ⟨rfl, rfl, rfl, by simp [World.setCell], fun k hk hn => Below.heap_setCell _ _ _ _ hn⟩) (fun j _ e => Or.inl e)
        have HAT : Hid (∀ b, (Value.slice ao5 (ln + 1) cap5).ownBlock = some b → (hv (r * 4 + kk)).ownBlock = some b ∨ w.heap.size ≤ b) := fun b e => by
          rcases hg5.at' b e with h | h
          · exact Or.inl (by rw [hvk]; exact h)
          · exact Or.inr (Nat.le_trans HBZ.out.size h)
        clear htk ho5 hg5 hB5 ZB ZR ZT ZC ZL ZBR HTZ
        go_wp2_with fail
        go_ret
        refine ⟨rfl, HBF.out, (fun j => if j = (r * 4 + kk) then Value.slice ao5 (ln + 1) cap5 else hv j), ?_, fun k hk b e1 => ?_⟩
        · have := HTK.out
          have hx : hadNext (Hs (r * 4 + kk)) ⟨0, nm, 100, 0, 0, dd, uu, hh⟩ = Hs (r * 4 + kk) ++ [⟨0, nm, 100, 0, ((ln : Int) + 1), dd, uu, hh⟩] := by have := HNX.out; simpa using this
          rw [← hx] at this
          exact this
        · by_cases e : k = (r * 4 + kk)
          · subst e
            simp only [if_true] at e1
            exact HAT.out b e1
          · simp only [if_neg e] at e1
            exact Or.inl e1
  clear hK
  refine wp_region_plan (fun wq => Below X.heap.size X wq) (fun i => i == 0 || i == 5 || i == 8 || i == 12 || i == 14 || i == 15) 15 (.one 1 (.one 3 (.one 4 (.one 6 (.one 7 (.one 10 (.one 11 (.two 0 14 (.one 2 (.two 5 14 (.two 8 14 (.one 9 (.two 12 14 (.one 13 (.one 14 (.one 15 (.done)))) (.one 12 (.one 13 (.one 15 (.done)))))) (.one 8 (.one 9 (.one 12 (.one 13 (.one 15 (.done))))))) (.one 5 (.one 8 (.one 9 (.one 12 (.one 13 (.one 15 (.done))))))))) (.one 0 (.one 2 (.one 5 (.one 8 (.one 9 (.one 12 (.one 13 (.one 15 (.done))))))))))))))))) (by kernel_rfl) rfl (by kernel_rfl) (by kernel_rfl) rfl (by kernel_rfl) ?_
  refine withFrG (N := 197) rfl ?_
  intro a0 f0 F0 hff
  have hs0 : f0 0 = Value.pointer (some ⟨tb, 0, none⟩) := hff 0
  have hs3 : f0 3 = Value.pointer (some ⟨sb, 0, none⟩) := hff 3
  have hs6 : f0 6 = Value.int .i64 (r : Int) := hff 6
  have hs7 : f0 7 = Value.int .i64 (kk : Int) := hff 7
  clear hff
  have hC0 : (fun wq => Below X.heap.size X wq) ({ X with drawn := X.drawn + 1 } : World) := Below.drew (Below.refl X.heap.size X)
  have s4 : ∀ wr, Below X.heap.size X wr → wr.cell? ⟨sb, 4, none⟩ = some (.int .i64 d) := fun wr hw => Blk.cell ((hw.block sb (Blk.lt (C := #[.int .i64 kd, .int .i64 who, .int .i64 a, .int .i64 nn, .int .i64 d, .int .i64 u, .int .i64 h]) (T := 29) HSB)).trans HSB : Blk wr sb #[.int .i64 kd, .int .i64 who, .int .i64 a, .int .i64 nn, .int .i64 d, .int .i64 u, .int .i64 h] 29) 4
  have s5 : ∀ wr, Below X.heap.size X wr → wr.cell? ⟨sb, 5, none⟩ = some (.int .i64 u) := fun wr hw => Blk.cell ((hw.block sb (Blk.lt (C := #[.int .i64 kd, .int .i64 who, .int .i64 a, .int .i64 nn, .int .i64 d, .int .i64 u, .int .i64 h]) (T := 29) HSB)).trans HSB : Blk wr sb #[.int .i64 kd, .int .i64 who, .int .i64 a, .int .i64 nn, .int .i64 d, .int .i64 u, .int .i64 h] 29) 5
  have s6 : ∀ wr, Below X.heap.size X wr → wr.cell? ⟨sb, 6, none⟩ = some (.int .i64 h) := fun wr hw => Blk.cell ((hw.block sb (Blk.lt (C := #[.int .i64 kd, .int .i64 who, .int .i64 a, .int .i64 nn, .int .i64 d, .int .i64 u, .int .i64 h]) (T := 29) HSB)).trans HSB : Blk wr sb #[.int .i64 kd, .int .i64 who, .int .i64 a, .int .i64 nn, .int .i64 d, .int .i64 u, .int .i64 h] 29) 6
  refine py (k := 1) rfl F0 rfl hC0 rfl (by omega) (wanted_none rfl) (v := Value.int .i64 (kk : Int)) (fun wr hwr => by simp only [execOp, (F0.eval 7 (by omega)).trans (show _ = Value.int .i64 (kk : Int) from by simp [upd, hs0, hs3, hs6, hs7])]; first | rfl | simp [go_sem]) fun a1 F1 => ?_
  refine py (k := 3) rfl F1 rfl hC0 rfl (by omega) (wanted_none rfl) (v := Value.pointer (some ⟨sb, 4, none⟩)) (fun wr hwr => by simp only [execOp, (F1.eval 3 (by omega)).trans (show _ = Value.pointer (some ⟨sb, 0, none⟩) from by simp [upd, hs0, hs3, hs6, hs7])]; simp [go_sem]) fun a2 F2 => ?_
  refine py (k := 4) rfl F2 rfl hC0 rfl (by omega) (wanted_none rfl) (v := Value.int .i64 d) (fun wr hwr => by simp only [execOp, (F2.eval 37 (by omega)).trans (show _ = Value.pointer (some ⟨sb, 4, none⟩) from by simp [upd, hs0, hs3, hs6, hs7])]; simp [go_sem, s4 wr hwr]) fun a3 F3 => ?_
  refine py (k := 6) rfl F3 rfl hC0 rfl (by omega) (wanted_none rfl) (v := Value.pointer (some ⟨sb, 5, none⟩)) (fun wr hwr => by simp only [execOp, (F3.eval 3 (by omega)).trans (show _ = Value.pointer (some ⟨sb, 0, none⟩) from by simp [upd, hs0, hs3, hs6, hs7])]; simp [go_sem]) fun a4 F4 => ?_
  refine py (k := 7) rfl F4 rfl hC0 rfl (by omega) (wanted_none rfl) (v := Value.int .i64 u) (fun wr hwr => by simp only [execOp, (F4.eval 40 (by omega)).trans (show _ = Value.pointer (some ⟨sb, 5, none⟩) from by simp [upd, hs0, hs3, hs6, hs7])]; simp [go_sem, s5 wr hwr]) fun a5 F5 => ?_
  refine py (k := 10) rfl F5 rfl hC0 rfl (by omega) (wanted_none rfl) (v := Value.pointer (some ⟨sb, 6, none⟩)) (fun wr hwr => by simp only [execOp, (F5.eval 3 (by omega)).trans (show _ = Value.pointer (some ⟨sb, 0, none⟩) from by simp [upd, hs0, hs3, hs6, hs7])]; simp [go_sem]) fun a6 F6 => ?_
  refine py (k := 11) rfl F6 rfl hC0 rfl (by omega) (wanted_none rfl) (v := Value.int .i64 h) (fun wr hwr => by simp only [execOp, (F6.eval 44 (by omega)).trans (show _ = Value.pointer (some ⟨sb, 6, none⟩) from by simp [upd, hs0, hs3, hs6, hs7])]; simp [go_sem, s6 wr hwr]) fun a7 F7 => ?_
  refine pfork hC0 ?_ ?_
  · refine pc' (k := 0) rfl F7 rfl rfl (by omega) (wanted_none rfl) (g := 16) (args := #[]) (by simp only [execOp, resolve, invoke, List.map_toArray, List.map_cons, List.map_nil]; simp [go_sem, Act.eval]) (names_any ({ X with drawn := X.drawn + 1 } : World)) ?_
    rintro e w3 ⟨rfl, hb3⟩
    refine ⟨_, rfl, fun axa1 Fxa1 => ?_⟩
    have HC3 : (fun wq => Below X.heap.size X wq) w3 := hC0.trans (hb3.mono hC0.size)
    refine py (k := 2) rfl Fxa1 rfl HC3 rfl (by omega) (wanted_none rfl) (v := Value.string ⟨nm.toArray⟩) (fun wr hwr => by simp only [execOp, (Fxa1.eval 34 (by omega)).trans (show _ = Value.agg #[.string ⟨#[97]⟩, .string ⟨#[98]⟩, .string ⟨#[98, 98]⟩, .string ⟨#[126]⟩] from by simp [upd, hs0, hs3, hs6, hs7]), (Fxa1.eval 35 (by omega)).trans (show _ = Value.int .i64 (kk : Int) from by simp [upd, hs0, hs3, hs6, hs7])]; first | exact HDX.out wr | (simp only [Sem.run_bind, Sem.run_pure]; exact HDX.out wr) | (simp [go_sem]; exact HDX.out wr)) fun axa2 Fxa2 => ?_
    refine pfork HC3 ?_ ?_
    · refine pc' (k := 5) rfl Fxa2 rfl rfl (by omega) (wanted_none rfl) (g := 10) (args := #[Value.int .i64 d, .int .i64 0, .int .i64 30]) (by simp only [execOp, resolve, invoke, List.map_toArray, List.map_cons, List.map_nil, (Fxa2.eval 38 (by omega)).trans (show _ = Value.int .i64 d from by simp [upd, hs0, hs3, hs6, hs7])]; simp [go_sem, Act.eval]) (H1.out w3) ?_
      rintro e wz ⟨rfl, hwz⟩
      replace hwz := hwz.symm
      subst hwz
      refine ⟨_, rfl, fun axaa1 Fxaa1 => ?_⟩
      refine pfork HC3 ?_ ?_
      · refine pc' (k := 8) rfl Fxaa1 rfl rfl (by omega) (wanted_none rfl) (g := 10) (args := #[Value.int .i64 u, .int .i64 0, .int .i64 30]) (by simp only [execOp, resolve, invoke, List.map_toArray, List.map_cons, List.map_nil, (Fxaa1.eval 41 (by omega)).trans (show _ = Value.int .i64 u from by simp [upd, hs0, hs3, hs6, hs7])]; simp [go_sem, Act.eval]) (H2.out w3) ?_
        rintro e wz ⟨rfl, hwz⟩
        replace hwz := hwz.symm
        subst hwz
        refine ⟨_, rfl, fun axaaa1 Fxaaa1 => ?_⟩
        refine py (k := 9) rfl Fxaaa1 rfl HC3 rfl (by omega) (wanted_none rfl) (v := Value.agg #[.int .i64 dd, .int .i64 uu]) (fun wr hwr => by simp only [execOp, List.map_toArray, List.map_cons, List.map_nil, (Fxaaa1.eval 39 (by omega)).trans (show _ = Value.int .i64 dd from by simp [upd, hs0, hs3, hs6, hs7]), (Fxaaa1.eval 42 (by omega)).trans (show _ = Value.int .i64 uu from by simp [upd, hs0, hs3, hs6, hs7])]; simp [go_sem]) fun axaaa2 Fxaaa2 => ?_
        refine pfork HC3 ?_ ?_
        · refine pc' (k := 12) rfl Fxaaa2 rfl rfl (by omega) (wanted_none rfl) (g := 10) (args := #[Value.int .i64 h, .int .i64 0, .int .i64 30]) (by simp only [execOp, resolve, invoke, List.map_toArray, List.map_cons, List.map_nil, (Fxaaa2.eval 45 (by omega)).trans (show _ = Value.int .i64 h from by simp [upd, hs0, hs3, hs6, hs7])]; simp [go_sem, Act.eval]) (H3.out w3) ?_
          rintro e wz ⟨rfl, hwz⟩
          replace hwz := hwz.symm
          subst hwz
          refine ⟨_, rfl, fun axaaaa1 Fxaaaa1 => ?_⟩
          refine py (k := 13) rfl Fxaaaa1 rfl HC3 rfl (by omega) (wanted_none rfl) (v := Value.agg #[.string ⟨nm.toArray⟩, .int .i64 100, .int .i64 0, .int .i64 0, .int .i64 dd, .int .i64 uu, .int .i64 hh]) (fun wr hwr => by simp only [execOp, List.map_toArray, List.map_cons, List.map_nil, (Fxaaaa1.eval 36 (by omega)).trans (show _ = Value.string ⟨nm.toArray⟩ from by simp [upd, hs0, hs3, hs6, hs7]), (Fxaaaa1.eval 43 (by omega)).trans (show _ = Value.agg #[.int .i64 dd, .int .i64 uu] from by simp [upd, hs0, hs3, hs6, hs7]), (Fxaaaa1.eval 46 (by omega)).trans (show _ = Value.int .i64 hh from by simp [upd, hs0, hs3, hs6, hs7])]; simp [go_sem, Act.eval]) fun axaaaa2 Fxaaaa2 => ?_
          refine pe (k := 14) rfl Fxaaaa2 rfl HC3 rfl (by omega) (wanted_none rfl) (v := Value.pointer (some ⟨w3.heap.size, 0, none⟩)) (w1 := w3.alloc (.cells #[.string ⟨#[]⟩, .int .i64 0, .int .i64 0, .int .i64 0, .int .i64 0, .int .i64 0, .int .i64 0] 46)) (by simp only [execOp]; simp [go_sem, zero46, zed, viewV]) fun axaaaa3 Fxaaaa3 => ?_
          have hBz : Blk (w3.alloc (.cells #[.string ⟨#[]⟩, .int .i64 0, .int .i64 0, .int .i64 0, .int .i64 0, .int .i64 0, .int .i64 0] 46)) w3.heap.size #[.string ⟨#[]⟩, .int .i64 0, .int .i64 0, .int .i64 0, .int .i64 0, .int .i64 0, .int .i64 0] 46 := heap_alloc_new w3 _
          have HCz : (fun wq => Below X.heap.size X wq) (w3.alloc (.cells #[.string ⟨#[]⟩, .int .i64 0, .int .i64 0, .int .i64 0, .int .i64 0, .int .i64 0, .int .i64 0] 46)) := HC3.alloc HC3.size _
          have hlz : X.heap.size ≤ w3.heap.size := HC3.size
          obtain ⟨Y, hY⟩ : ∃ Y, Y = (((((((World.setCell (w3.alloc (.cells #[.string ⟨#[]⟩, .int .i64 0, .int .i64 0, .int .i64 0, .int .i64 0, .int .i64 0, .int .i64 0] 46)) ⟨w3.heap.size, 0, none⟩ (.string ⟨nm.toArray⟩)).setCell ⟨w3.heap.size, 1, none⟩ (.int .i64 100)).setCell ⟨w3.heap.size, 2, none⟩ (.int .i64 0)).setCell ⟨w3.heap.size, 3, none⟩ (.int .i64 0)).setCell ⟨w3.heap.size, 4, none⟩ (.int .i64 dd)).setCell ⟨w3.heap.size, 5, none⟩ (.int .i64 uu)).setCell ⟨w3.heap.size, 6, none⟩ (.int .i64 hh)) := ⟨_, rfl⟩
          have hBy : Blk Y w3.heap.size #[.string ⟨nm.toArray⟩, .int .i64 100, .int .i64 0, .int .i64 0, .int .i64 dd, .int .i64 uu, .int .i64 hh] 46 := by rw [hY]; exact ((((((Blk.set hBz 0 (.string ⟨nm.toArray⟩)).set 1 (.int .i64 100)).set 2 (.int .i64 0)).set 3 (.int .i64 0)).set 4 (.int .i64 dd)).set 5 (.int .i64 uu)).set 6 (.int .i64 hh)
          have hCy : (fun wq => Below X.heap.size X wq) Y := by rw [hY]; exact set7_below HCz hlz _ _ _ _ _ _ _
          refine ps (k := 15) rfl rfl HCz rfl (wanted_none rfl) (w1 := Y) (by rw [hY]; exact store7 hBz nm 100 0 0 dd uu hh rfl ((Fxaaaa3.eval 8 (by omega)).trans (show _ = Value.pointer (some ⟨w3.heap.size, 0, none⟩) from by simp [upd, hs0, hs3, hs6, hs7])) ((Fxaaaa3.eval 47 (by omega)).trans (show _ = Value.agg #[.string ⟨nm.toArray⟩, .int .i64 100, .int .i64 0, .int .i64 0, .int .i64 dd, .int .i64 uu, .int .i64 hh] from by simp [upd, hs0, hs3, hs6, hs7]))) ?_
          refine pdone (fun _ => hCy) ?_
          exact hrest _ _ Y w3.heap.size Fxaaaa3 (show _ = Value.pointer (some ⟨tb, 0, none⟩) from by simp [upd, hs0, hs3, hs6, hs7]) (show _ = Value.int .i64 (r : Int) from by simp [upd, hs0, hs3, hs6, hs7]) (show _ = Value.int .i64 (kk : Int) from by simp [upd, hs0, hs3, hs6, hs7]) (show _ = Value.pointer (some ⟨w3.heap.size, 0, none⟩) from by simp [upd, hs0, hs3, hs6, hs7]) hBy hlz hCy
        · refine pe' (k := 14) rfl Fxaaa2 rfl rfl (by omega) (wanted_none rfl) (v := Value.pointer (some ⟨w3.heap.size, 0, none⟩)) (w1 := w3.alloc (.cells #[.string ⟨#[]⟩, .int .i64 0, .int .i64 0, .int .i64 0, .int .i64 0, .int .i64 0, .int .i64 0] 46)) (by simp only [execOp]; simp [go_sem, zero46, zed, viewV]) fun axaaab1 Fxaaab1 => ?_
          have hBz : Blk (w3.alloc (.cells #[.string ⟨#[]⟩, .int .i64 0, .int .i64 0, .int .i64 0, .int .i64 0, .int .i64 0, .int .i64 0] 46)) w3.heap.size #[.string ⟨#[]⟩, .int .i64 0, .int .i64 0, .int .i64 0, .int .i64 0, .int .i64 0, .int .i64 0] 46 := heap_alloc_new w3 _
          have HCz : (fun wq => Below X.heap.size X wq) (w3.alloc (.cells #[.string ⟨#[]⟩, .int .i64 0, .int .i64 0, .int .i64 0, .int .i64 0, .int .i64 0, .int .i64 0] 46)) := HC3.alloc HC3.size _
          have hlz : X.heap.size ≤ w3.heap.size := HC3.size
          refine pc (k := 12) rfl Fxaaab1 rfl HCz rfl (by omega) (wanted_none rfl) (g := 10) (args := #[Value.int .i64 h, .int .i64 0, .int .i64 30]) (by simp only [execOp, resolve, invoke, List.map_toArray, List.map_cons, List.map_nil, (Fxaaab1.eval 45 (by omega)).trans (show _ = Value.int .i64 h from by simp [upd, hs0, hs3, hs6, hs7])]; simp [go_sem, Act.eval]) (H3.out (w3.alloc (.cells #[.string ⟨#[]⟩, .int .i64 0, .int .i64 0, .int .i64 0, .int .i64 0, .int .i64 0, .int .i64 0] 46))) ?_
          rintro e wz ⟨rfl, hwz⟩
          replace hwz := hwz.symm
          subst hwz
          refine ⟨_, rfl, fun axaaab2 Fxaaab2 => ?_⟩
          refine py (k := 13) rfl Fxaaab2 rfl HCz rfl (by omega) (wanted_none rfl) (v := Value.agg #[.string ⟨nm.toArray⟩, .int .i64 100, .int .i64 0, .int .i64 0, .int .i64 dd, .int .i64 uu, .int .i64 hh]) (fun wr hwr => by simp only [execOp, List.map_toArray, List.map_cons, List.map_nil, (Fxaaab2.eval 36 (by omega)).trans (show _ = Value.string ⟨nm.toArray⟩ from by simp [upd, hs0, hs3, hs6, hs7]), (Fxaaab2.eval 43 (by omega)).trans (show _ = Value.agg #[.int .i64 dd, .int .i64 uu] from by simp [upd, hs0, hs3, hs6, hs7]), (Fxaaab2.eval 46 (by omega)).trans (show _ = Value.int .i64 hh from by simp [upd, hs0, hs3, hs6, hs7])]; simp [go_sem, Act.eval]) fun axaaab3 Fxaaab3 => ?_
          obtain ⟨Y, hY⟩ : ∃ Y, Y = (((((((World.setCell (w3.alloc (.cells #[.string ⟨#[]⟩, .int .i64 0, .int .i64 0, .int .i64 0, .int .i64 0, .int .i64 0, .int .i64 0] 46)) ⟨w3.heap.size, 0, none⟩ (.string ⟨nm.toArray⟩)).setCell ⟨w3.heap.size, 1, none⟩ (.int .i64 100)).setCell ⟨w3.heap.size, 2, none⟩ (.int .i64 0)).setCell ⟨w3.heap.size, 3, none⟩ (.int .i64 0)).setCell ⟨w3.heap.size, 4, none⟩ (.int .i64 dd)).setCell ⟨w3.heap.size, 5, none⟩ (.int .i64 uu)).setCell ⟨w3.heap.size, 6, none⟩ (.int .i64 hh)) := ⟨_, rfl⟩
          have hBy : Blk Y w3.heap.size #[.string ⟨nm.toArray⟩, .int .i64 100, .int .i64 0, .int .i64 0, .int .i64 dd, .int .i64 uu, .int .i64 hh] 46 := by rw [hY]; exact ((((((Blk.set hBz 0 (.string ⟨nm.toArray⟩)).set 1 (.int .i64 100)).set 2 (.int .i64 0)).set 3 (.int .i64 0)).set 4 (.int .i64 dd)).set 5 (.int .i64 uu)).set 6 (.int .i64 hh)
          have hCy : (fun wq => Below X.heap.size X wq) Y := by rw [hY]; exact set7_below HCz hlz _ _ _ _ _ _ _
          refine ps (k := 15) rfl rfl HCz rfl (wanted_none rfl) (w1 := Y) (by rw [hY]; exact store7 hBz nm 100 0 0 dd uu hh rfl ((Fxaaab3.eval 8 (by omega)).trans (show _ = Value.pointer (some ⟨w3.heap.size, 0, none⟩) from by simp [upd, hs0, hs3, hs6, hs7])) ((Fxaaab3.eval 47 (by omega)).trans (show _ = Value.agg #[.string ⟨nm.toArray⟩, .int .i64 100, .int .i64 0, .int .i64 0, .int .i64 dd, .int .i64 uu, .int .i64 hh] from by simp [upd, hs0, hs3, hs6, hs7]))) ?_
          refine pdone (fun _ => hCy) ?_
          exact hrest _ _ Y w3.heap.size Fxaaab3 (show _ = Value.pointer (some ⟨tb, 0, none⟩) from by simp [upd, hs0, hs3, hs6, hs7]) (show _ = Value.int .i64 (r : Int) from by simp [upd, hs0, hs3, hs6, hs7]) (show _ = Value.int .i64 (kk : Int) from by simp [upd, hs0, hs3, hs6, hs7]) (show _ = Value.pointer (some ⟨w3.heap.size, 0, none⟩) from by simp [upd, hs0, hs3, hs6, hs7]) hBy hlz hCy
      · refine pe' (k := 14) rfl Fxaa1 rfl rfl (by omega) (wanted_none rfl) (v := Value.pointer (some ⟨w3.heap.size, 0, none⟩)) (w1 := w3.alloc (.cells #[.string ⟨#[]⟩, .int .i64 0, .int .i64 0, .int .i64 0, .int .i64 0, .int .i64 0, .int .i64 0] 46)) (by simp only [execOp]; simp [go_sem, zero46, zed, viewV]) fun axaab1 Fxaab1 => ?_
        have hBz : Blk (w3.alloc (.cells #[.string ⟨#[]⟩, .int .i64 0, .int .i64 0, .int .i64 0, .int .i64 0, .int .i64 0, .int .i64 0] 46)) w3.heap.size #[.string ⟨#[]⟩, .int .i64 0, .int .i64 0, .int .i64 0, .int .i64 0, .int .i64 0, .int .i64 0] 46 := heap_alloc_new w3 _
        have HCz : (fun wq => Below X.heap.size X wq) (w3.alloc (.cells #[.string ⟨#[]⟩, .int .i64 0, .int .i64 0, .int .i64 0, .int .i64 0, .int .i64 0, .int .i64 0] 46)) := HC3.alloc HC3.size _
        have hlz : X.heap.size ≤ w3.heap.size := HC3.size
        refine pc (k := 8) rfl Fxaab1 rfl HCz rfl (by omega) (wanted_none rfl) (g := 10) (args := #[Value.int .i64 u, .int .i64 0, .int .i64 30]) (by simp only [execOp, resolve, invoke, List.map_toArray, List.map_cons, List.map_nil, (Fxaab1.eval 41 (by omega)).trans (show _ = Value.int .i64 u from by simp [upd, hs0, hs3, hs6, hs7])]; simp [go_sem, Act.eval]) (H2.out (w3.alloc (.cells #[.string ⟨#[]⟩, .int .i64 0, .int .i64 0, .int .i64 0, .int .i64 0, .int .i64 0, .int .i64 0] 46))) ?_
        rintro e wz ⟨rfl, hwz⟩
        replace hwz := hwz.symm
        subst hwz
        refine ⟨_, rfl, fun axaab2 Fxaab2 => ?_⟩
        refine py (k := 9) rfl Fxaab2 rfl HCz rfl (by omega) (wanted_none rfl) (v := Value.agg #[.int .i64 dd, .int .i64 uu]) (fun wr hwr => by simp only [execOp, List.map_toArray, List.map_cons, List.map_nil, (Fxaab2.eval 39 (by omega)).trans (show _ = Value.int .i64 dd from by simp [upd, hs0, hs3, hs6, hs7]), (Fxaab2.eval 42 (by omega)).trans (show _ = Value.int .i64 uu from by simp [upd, hs0, hs3, hs6, hs7])]; simp [go_sem]) fun axaab3 Fxaab3 => ?_
        refine pc (k := 12) rfl Fxaab3 rfl HCz rfl (by omega) (wanted_none rfl) (g := 10) (args := #[Value.int .i64 h, .int .i64 0, .int .i64 30]) (by simp only [execOp, resolve, invoke, List.map_toArray, List.map_cons, List.map_nil, (Fxaab3.eval 45 (by omega)).trans (show _ = Value.int .i64 h from by simp [upd, hs0, hs3, hs6, hs7])]; simp [go_sem, Act.eval]) (H3.out (w3.alloc (.cells #[.string ⟨#[]⟩, .int .i64 0, .int .i64 0, .int .i64 0, .int .i64 0, .int .i64 0, .int .i64 0] 46))) ?_
        rintro e wz ⟨rfl, hwz⟩
        replace hwz := hwz.symm
        subst hwz
        refine ⟨_, rfl, fun axaab4 Fxaab4 => ?_⟩
        refine py (k := 13) rfl Fxaab4 rfl HCz rfl (by omega) (wanted_none rfl) (v := Value.agg #[.string ⟨nm.toArray⟩, .int .i64 100, .int .i64 0, .int .i64 0, .int .i64 dd, .int .i64 uu, .int .i64 hh]) (fun wr hwr => by simp only [execOp, List.map_toArray, List.map_cons, List.map_nil, (Fxaab4.eval 36 (by omega)).trans (show _ = Value.string ⟨nm.toArray⟩ from by simp [upd, hs0, hs3, hs6, hs7]), (Fxaab4.eval 43 (by omega)).trans (show _ = Value.agg #[.int .i64 dd, .int .i64 uu] from by simp [upd, hs0, hs3, hs6, hs7]), (Fxaab4.eval 46 (by omega)).trans (show _ = Value.int .i64 hh from by simp [upd, hs0, hs3, hs6, hs7])]; simp [go_sem, Act.eval]) fun axaab5 Fxaab5 => ?_
        obtain ⟨Y, hY⟩ : ∃ Y, Y = (((((((World.setCell (w3.alloc (.cells #[.string ⟨#[]⟩, .int .i64 0, .int .i64 0, .int .i64 0, .int .i64 0, .int .i64 0, .int .i64 0] 46)) ⟨w3.heap.size, 0, none⟩ (.string ⟨nm.toArray⟩)).setCell ⟨w3.heap.size, 1, none⟩ (.int .i64 100)).setCell ⟨w3.heap.size, 2, none⟩ (.int .i64 0)).setCell ⟨w3.heap.size, 3, none⟩ (.int .i64 0)).setCell ⟨w3.heap.size, 4, none⟩ (.int .i64 dd)).setCell ⟨w3.heap.size, 5, none⟩ (.int .i64 uu)).setCell ⟨w3.heap.size, 6, none⟩ (.int .i64 hh)) := ⟨_, rfl⟩
        have hBy : Blk Y w3.heap.size #[.string ⟨nm.toArray⟩, .int .i64 100, .int .i64 0, .int .i64 0, .int .i64 dd, .int .i64 uu, .int .i64 hh] 46 := by rw [hY]; exact ((((((Blk.set hBz 0 (.string ⟨nm.toArray⟩)).set 1 (.int .i64 100)).set 2 (.int .i64 0)).set 3 (.int .i64 0)).set 4 (.int .i64 dd)).set 5 (.int .i64 uu)).set 6 (.int .i64 hh)
        have hCy : (fun wq => Below X.heap.size X wq) Y := by rw [hY]; exact set7_below HCz hlz _ _ _ _ _ _ _
        refine ps (k := 15) rfl rfl HCz rfl (wanted_none rfl) (w1 := Y) (by rw [hY]; exact store7 hBz nm 100 0 0 dd uu hh rfl ((Fxaab5.eval 8 (by omega)).trans (show _ = Value.pointer (some ⟨w3.heap.size, 0, none⟩) from by simp [upd, hs0, hs3, hs6, hs7])) ((Fxaab5.eval 47 (by omega)).trans (show _ = Value.agg #[.string ⟨nm.toArray⟩, .int .i64 100, .int .i64 0, .int .i64 0, .int .i64 dd, .int .i64 uu, .int .i64 hh] from by simp [upd, hs0, hs3, hs6, hs7]))) ?_
        refine pdone (fun _ => hCy) ?_
        exact hrest _ _ Y w3.heap.size Fxaab5 (show _ = Value.pointer (some ⟨tb, 0, none⟩) from by simp [upd, hs0, hs3, hs6, hs7]) (show _ = Value.int .i64 (r : Int) from by simp [upd, hs0, hs3, hs6, hs7]) (show _ = Value.int .i64 (kk : Int) from by simp [upd, hs0, hs3, hs6, hs7]) (show _ = Value.pointer (some ⟨w3.heap.size, 0, none⟩) from by simp [upd, hs0, hs3, hs6, hs7]) hBy hlz hCy
    · refine pe' (k := 14) rfl Fxa2 rfl rfl (by omega) (wanted_none rfl) (v := Value.pointer (some ⟨w3.heap.size, 0, none⟩)) (w1 := w3.alloc (.cells #[.string ⟨#[]⟩, .int .i64 0, .int .i64 0, .int .i64 0, .int .i64 0, .int .i64 0, .int .i64 0] 46)) (by simp only [execOp]; simp [go_sem, zero46, zed, viewV]) fun axab1 Fxab1 => ?_
      have hBz : Blk (w3.alloc (.cells #[.string ⟨#[]⟩, .int .i64 0, .int .i64 0, .int .i64 0, .int .i64 0, .int .i64 0, .int .i64 0] 46)) w3.heap.size #[.string ⟨#[]⟩, .int .i64 0, .int .i64 0, .int .i64 0, .int .i64 0, .int .i64 0, .int .i64 0] 46 := heap_alloc_new w3 _
      have HCz : (fun wq => Below X.heap.size X wq) (w3.alloc (.cells #[.string ⟨#[]⟩, .int .i64 0, .int .i64 0, .int .i64 0, .int .i64 0, .int .i64 0, .int .i64 0] 46)) := HC3.alloc HC3.size _
      have hlz : X.heap.size ≤ w3.heap.size := HC3.size
      refine pc (k := 5) rfl Fxab1 rfl HCz rfl (by omega) (wanted_none rfl) (g := 10) (args := #[Value.int .i64 d, .int .i64 0, .int .i64 30]) (by simp only [execOp, resolve, invoke, List.map_toArray, List.map_cons, List.map_nil, (Fxab1.eval 38 (by omega)).trans (show _ = Value.int .i64 d from by simp [upd, hs0, hs3, hs6, hs7])]; simp [go_sem, Act.eval]) (H1.out (w3.alloc (.cells #[.string ⟨#[]⟩, .int .i64 0, .int .i64 0, .int .i64 0, .int .i64 0, .int .i64 0, .int .i64 0] 46))) ?_
      rintro e wz ⟨rfl, hwz⟩
      replace hwz := hwz.symm
      subst hwz
      refine ⟨_, rfl, fun axab2 Fxab2 => ?_⟩
      refine pc (k := 8) rfl Fxab2 rfl HCz rfl (by omega) (wanted_none rfl) (g := 10) (args := #[Value.int .i64 u, .int .i64 0, .int .i64 30]) (by simp only [execOp, resolve, invoke, List.map_toArray, List.map_cons, List.map_nil, (Fxab2.eval 41 (by omega)).trans (show _ = Value.int .i64 u from by simp [upd, hs0, hs3, hs6, hs7])]; simp [go_sem, Act.eval]) (H2.out (w3.alloc (.cells #[.string ⟨#[]⟩, .int .i64 0, .int .i64 0, .int .i64 0, .int .i64 0, .int .i64 0, .int .i64 0] 46))) ?_
      rintro e wz ⟨rfl, hwz⟩
      replace hwz := hwz.symm
      subst hwz
      refine ⟨_, rfl, fun axab3 Fxab3 => ?_⟩
      refine py (k := 9) rfl Fxab3 rfl HCz rfl (by omega) (wanted_none rfl) (v := Value.agg #[.int .i64 dd, .int .i64 uu]) (fun wr hwr => by simp only [execOp, List.map_toArray, List.map_cons, List.map_nil, (Fxab3.eval 39 (by omega)).trans (show _ = Value.int .i64 dd from by simp [upd, hs0, hs3, hs6, hs7]), (Fxab3.eval 42 (by omega)).trans (show _ = Value.int .i64 uu from by simp [upd, hs0, hs3, hs6, hs7])]; simp [go_sem]) fun axab4 Fxab4 => ?_
      refine pc (k := 12) rfl Fxab4 rfl HCz rfl (by omega) (wanted_none rfl) (g := 10) (args := #[Value.int .i64 h, .int .i64 0, .int .i64 30]) (by simp only [execOp, resolve, invoke, List.map_toArray, List.map_cons, List.map_nil, (Fxab4.eval 45 (by omega)).trans (show _ = Value.int .i64 h from by simp [upd, hs0, hs3, hs6, hs7])]; simp [go_sem, Act.eval]) (H3.out (w3.alloc (.cells #[.string ⟨#[]⟩, .int .i64 0, .int .i64 0, .int .i64 0, .int .i64 0, .int .i64 0, .int .i64 0] 46))) ?_
      rintro e wz ⟨rfl, hwz⟩
      replace hwz := hwz.symm
      subst hwz
      refine ⟨_, rfl, fun axab5 Fxab5 => ?_⟩
      refine py (k := 13) rfl Fxab5 rfl HCz rfl (by omega) (wanted_none rfl) (v := Value.agg #[.string ⟨nm.toArray⟩, .int .i64 100, .int .i64 0, .int .i64 0, .int .i64 dd, .int .i64 uu, .int .i64 hh]) (fun wr hwr => by simp only [execOp, List.map_toArray, List.map_cons, List.map_nil, (Fxab5.eval 36 (by omega)).trans (show _ = Value.string ⟨nm.toArray⟩ from by simp [upd, hs0, hs3, hs6, hs7]), (Fxab5.eval 43 (by omega)).trans (show _ = Value.agg #[.int .i64 dd, .int .i64 uu] from by simp [upd, hs0, hs3, hs6, hs7]), (Fxab5.eval 46 (by omega)).trans (show _ = Value.int .i64 hh from by simp [upd, hs0, hs3, hs6, hs7])]; simp [go_sem, Act.eval]) fun axab6 Fxab6 => ?_
      obtain ⟨Y, hY⟩ : ∃ Y, Y = (((((((World.setCell (w3.alloc (.cells #[.string ⟨#[]⟩, .int .i64 0, .int .i64 0, .int .i64 0, .int .i64 0, .int .i64 0, .int .i64 0] 46)) ⟨w3.heap.size, 0, none⟩ (.string ⟨nm.toArray⟩)).setCell ⟨w3.heap.size, 1, none⟩ (.int .i64 100)).setCell ⟨w3.heap.size, 2, none⟩ (.int .i64 0)).setCell ⟨w3.heap.size, 3, none⟩ (.int .i64 0)).setCell ⟨w3.heap.size, 4, none⟩ (.int .i64 dd)).setCell ⟨w3.heap.size, 5, none⟩ (.int .i64 uu)).setCell ⟨w3.heap.size, 6, none⟩ (.int .i64 hh)) := ⟨_, rfl⟩
      have hBy : Blk Y w3.heap.size #[.string ⟨nm.toArray⟩, .int .i64 100, .int .i64 0, .int .i64 0, .int .i64 dd, .int .i64 uu, .int .i64 hh] 46 := by rw [hY]; exact ((((((Blk.set hBz 0 (.string ⟨nm.toArray⟩)).set 1 (.int .i64 100)).set 2 (.int .i64 0)).set 3 (.int .i64 0)).set 4 (.int .i64 dd)).set 5 (.int .i64 uu)).set 6 (.int .i64 hh)
      have hCy : (fun wq => Below X.heap.size X wq) Y := by rw [hY]; exact set7_below HCz hlz _ _ _ _ _ _ _
      refine ps (k := 15) rfl rfl HCz rfl (wanted_none rfl) (w1 := Y) (by rw [hY]; exact store7 hBz nm 100 0 0 dd uu hh rfl ((Fxab6.eval 8 (by omega)).trans (show _ = Value.pointer (some ⟨w3.heap.size, 0, none⟩) from by simp [upd, hs0, hs3, hs6, hs7])) ((Fxab6.eval 47 (by omega)).trans (show _ = Value.agg #[.string ⟨nm.toArray⟩, .int .i64 100, .int .i64 0, .int .i64 0, .int .i64 dd, .int .i64 uu, .int .i64 hh] from by simp [upd, hs0, hs3, hs6, hs7]))) ?_
      refine pdone (fun _ => hCy) ?_
      exact hrest _ _ Y w3.heap.size Fxab6 (show _ = Value.pointer (some ⟨tb, 0, none⟩) from by simp [upd, hs0, hs3, hs6, hs7]) (show _ = Value.int .i64 (r : Int) from by simp [upd, hs0, hs3, hs6, hs7]) (show _ = Value.int .i64 (kk : Int) from by simp [upd, hs0, hs3, hs6, hs7]) (show _ = Value.pointer (some ⟨w3.heap.size, 0, none⟩) from by simp [upd, hs0, hs3, hs6, hs7]) hBy hlz hCy
  · refine pe' (k := 14) rfl F7 rfl rfl (by omega) (wanted_none rfl) (v := Value.pointer (some ⟨({ X with drawn := X.drawn + 1 } : World).heap.size, 0, none⟩)) (w1 := ({ X with drawn := X.drawn + 1 } : World).alloc (.cells #[.string ⟨#[]⟩, .int .i64 0, .int .i64 0, .int .i64 0, .int .i64 0, .int .i64 0, .int .i64 0] 46)) (by simp only [execOp]; simp [go_sem, zero46, zed, viewV]) fun axb1 Fxb1 => ?_
    have hBz : Blk (({ X with drawn := X.drawn + 1 } : World).alloc (.cells #[.string ⟨#[]⟩, .int .i64 0, .int .i64 0, .int .i64 0, .int .i64 0, .int .i64 0, .int .i64 0] 46)) ({ X with drawn := X.drawn + 1 } : World).heap.size #[.string ⟨#[]⟩, .int .i64 0, .int .i64 0, .int .i64 0, .int .i64 0, .int .i64 0, .int .i64 0] 46 := heap_alloc_new ({ X with drawn := X.drawn + 1 } : World) _
    have HCz : (fun wq => Below X.heap.size X wq) (({ X with drawn := X.drawn + 1 } : World).alloc (.cells #[.string ⟨#[]⟩, .int .i64 0, .int .i64 0, .int .i64 0, .int .i64 0, .int .i64 0, .int .i64 0] 46)) := hC0.alloc hC0.size _
    have hlz : X.heap.size ≤ ({ X with drawn := X.drawn + 1 } : World).heap.size := hC0.size
    refine pc (k := 0) rfl Fxb1 rfl HCz rfl (by omega) (wanted_none rfl) (g := 16) (args := #[]) (by simp only [execOp, resolve, invoke, List.map_toArray, List.map_cons, List.map_nil]; simp [go_sem, Act.eval]) (names_any (({ X with drawn := X.drawn + 1 } : World).alloc (.cells #[.string ⟨#[]⟩, .int .i64 0, .int .i64 0, .int .i64 0, .int .i64 0, .int .i64 0, .int .i64 0] 46))) ?_
    rintro e w3 ⟨rfl, hb3⟩
    refine ⟨_, rfl, fun axb2 Fxb2 => ?_⟩
    have HC3 : (fun wq => Below X.heap.size X wq) w3 := HCz.trans (hb3.mono HCz.size)
    have hBn := Blk.below hBz hb3 (Blk.lt hBz)
    refine py (k := 2) rfl Fxb2 rfl HC3 rfl (by omega) (wanted_none rfl) (v := Value.string ⟨nm.toArray⟩) (fun wr hwr => by simp only [execOp, (Fxb2.eval 34 (by omega)).trans (show _ = Value.agg #[.string ⟨#[97]⟩, .string ⟨#[98]⟩, .string ⟨#[98, 98]⟩, .string ⟨#[126]⟩] from by simp [upd, hs0, hs3, hs6, hs7]), (Fxb2.eval 35 (by omega)).trans (show _ = Value.int .i64 (kk : Int) from by simp [upd, hs0, hs3, hs6, hs7])]; first | exact HDX.out wr | (simp only [Sem.run_bind, Sem.run_pure]; exact HDX.out wr) | (simp [go_sem]; exact HDX.out wr)) fun axb3 Fxb3 => ?_
    refine pc (k := 5) rfl Fxb3 rfl HC3 rfl (by omega) (wanted_none rfl) (g := 10) (args := #[Value.int .i64 d, .int .i64 0, .int .i64 30]) (by simp only [execOp, resolve, invoke, List.map_toArray, List.map_cons, List.map_nil, (Fxb3.eval 38 (by omega)).trans (show _ = Value.int .i64 d from by simp [upd, hs0, hs3, hs6, hs7])]; simp [go_sem, Act.eval]) (H1.out w3) ?_
    rintro e wz ⟨rfl, hwz⟩
    replace hwz := hwz.symm
    subst hwz
    refine ⟨_, rfl, fun axb4 Fxb4 => ?_⟩
    refine pc (k := 8) rfl Fxb4 rfl HC3 rfl (by omega) (wanted_none rfl) (g := 10) (args := #[Value.int .i64 u, .int .i64 0, .int .i64 30]) (by simp only [execOp, resolve, invoke, List.map_toArray, List.map_cons, List.map_nil, (Fxb4.eval 41 (by omega)).trans (show _ = Value.int .i64 u from by simp [upd, hs0, hs3, hs6, hs7])]; simp [go_sem, Act.eval]) (H2.out w3) ?_
    rintro e wz ⟨rfl, hwz⟩
    replace hwz := hwz.symm
    subst hwz
    refine ⟨_, rfl, fun axb5 Fxb5 => ?_⟩
    refine py (k := 9) rfl Fxb5 rfl HC3 rfl (by omega) (wanted_none rfl) (v := Value.agg #[.int .i64 dd, .int .i64 uu]) (fun wr hwr => by simp only [execOp, List.map_toArray, List.map_cons, List.map_nil, (Fxb5.eval 39 (by omega)).trans (show _ = Value.int .i64 dd from by simp [upd, hs0, hs3, hs6, hs7]), (Fxb5.eval 42 (by omega)).trans (show _ = Value.int .i64 uu from by simp [upd, hs0, hs3, hs6, hs7])]; simp [go_sem]) fun axb6 Fxb6 => ?_
    refine pc (k := 12) rfl Fxb6 rfl HC3 rfl (by omega) (wanted_none rfl) (g := 10) (args := #[Value.int .i64 h, .int .i64 0, .int .i64 30]) (by simp only [execOp, resolve, invoke, List.map_toArray, List.map_cons, List.map_nil, (Fxb6.eval 45 (by omega)).trans (show _ = Value.int .i64 h from by simp [upd, hs0, hs3, hs6, hs7])]; simp [go_sem, Act.eval]) (H3.out w3) ?_
    rintro e wz ⟨rfl, hwz⟩
    replace hwz := hwz.symm
    subst hwz
    refine ⟨_, rfl, fun axb7 Fxb7 => ?_⟩
    refine py (k := 13) rfl Fxb7 rfl HC3 rfl (by omega) (wanted_none rfl) (v := Value.agg #[.string ⟨nm.toArray⟩, .int .i64 100, .int .i64 0, .int .i64 0, .int .i64 dd, .int .i64 uu, .int .i64 hh]) (fun wr hwr => by simp only [execOp, List.map_toArray, List.map_cons, List.map_nil, (Fxb7.eval 36 (by omega)).trans (show _ = Value.string ⟨nm.toArray⟩ from by simp [upd, hs0, hs3, hs6, hs7]), (Fxb7.eval 43 (by omega)).trans (show _ = Value.agg #[.int .i64 dd, .int .i64 uu] from by simp [upd, hs0, hs3, hs6, hs7]), (Fxb7.eval 46 (by omega)).trans (show _ = Value.int .i64 hh from by simp [upd, hs0, hs3, hs6, hs7])]; simp [go_sem, Act.eval]) fun axb8 Fxb8 => ?_
    obtain ⟨Y, hY⟩ : ∃ Y, Y = (((((((World.setCell w3 ⟨({ X with drawn := X.drawn + 1 } : World).heap.size, 0, none⟩ (.string ⟨nm.toArray⟩)).setCell ⟨({ X with drawn := X.drawn + 1 } : World).heap.size, 1, none⟩ (.int .i64 100)).setCell ⟨({ X with drawn := X.drawn + 1 } : World).heap.size, 2, none⟩ (.int .i64 0)).setCell ⟨({ X with drawn := X.drawn + 1 } : World).heap.size, 3, none⟩ (.int .i64 0)).setCell ⟨({ X with drawn := X.drawn + 1 } : World).heap.size, 4, none⟩ (.int .i64 dd)).setCell ⟨({ X with drawn := X.drawn + 1 } : World).heap.size, 5, none⟩ (.int .i64 uu)).setCell ⟨({ X with drawn := X.drawn + 1 } : World).heap.size, 6, none⟩ (.int .i64 hh)) := ⟨_, rfl⟩
    have hBy : Blk Y ({ X with drawn := X.drawn + 1 } : World).heap.size #[.string ⟨nm.toArray⟩, .int .i64 100, .int .i64 0, .int .i64 0, .int .i64 dd, .int .i64 uu, .int .i64 hh] 46 := by rw [hY]; exact ((((((Blk.set hBn 0 (.string ⟨nm.toArray⟩)).set 1 (.int .i64 100)).set 2 (.int .i64 0)).set 3 (.int .i64 0)).set 4 (.int .i64 dd)).set 5 (.int .i64 uu)).set 6 (.int .i64 hh)
    have hCy : (fun wq => Below X.heap.size X wq) Y := by rw [hY]; exact set7_below HC3 hlz _ _ _ _ _ _ _
    refine ps (k := 15) rfl rfl HC3 rfl (wanted_none rfl) (w1 := Y) (by rw [hY]; exact store7 hBn nm 100 0 0 dd uu hh rfl ((Fxb8.eval 8 (by omega)).trans (show _ = Value.pointer (some ⟨({ X with drawn := X.drawn + 1 } : World).heap.size, 0, none⟩) from by simp [upd, hs0, hs3, hs6, hs7])) ((Fxb8.eval 47 (by omega)).trans (show _ = Value.agg #[.string ⟨nm.toArray⟩, .int .i64 100, .int .i64 0, .int .i64 0, .int .i64 dd, .int .i64 uu, .int .i64 hh] from by simp [upd, hs0, hs3, hs6, hs7]))) ?_
    refine pdone (fun _ => hCy) ?_
    exact hrest _ _ Y ({ X with drawn := X.drawn + 1 } : World).heap.size Fxb8 (show _ = Value.pointer (some ⟨tb, 0, none⟩) from by simp [upd, hs0, hs3, hs6, hs7]) (show _ = Value.int .i64 (r : Int) from by simp [upd, hs0, hs3, hs6, hs7]) (show _ = Value.int .i64 (kk : Int) from by simp [upd, hs0, hs3, hs6, hs7]) (show _ = Value.pointer (some ⟨({ X with drawn := X.drawn + 1 } : World).heap.size, 0, none⟩) from by simp [upd, hs0, hs3, hs6, hs7]) hBy hlz hCy
end Go.Proofs.Ytifgmefdlmjocaa
