import Derived.Deep.Cut
import Derived.Deep.LoopGhost
import Derived.Test.YtfgnlfemckdfnaaJO
namespace Go.Proofs.Ytfgnlfemckdfnaa.Sh
open Go.RowKit Go.PlainAid
set_option linter.unusedVariables false
set_option linter.unusedSimpArgs false
set_option maxRecDepth 100000 in
theorem lit201 {a : Act} {f : Nat → Value} (h : Fr 201 a f) : a = { tmps := #[f 0, f 1, f 2, f 3, f 4, f 5, f 6, f 7, f 8, f 9, f 10, f 11, f 12, f 13, f 14, f 15, f 16, f 17, f 18, f 19, f 20, f 21, f 22, f 23, f 24, f 25, f 26, f 27, f 28, f 29, f 30, f 31, f 32, f 33, f 34, f 35, f 36, f 37, f 38, f 39, f 40, f 41, f 42, f 43, f 44, f 45, f 46, f 47, f 48, f 49, f 50, f 51, f 52, f 53, f 54, f 55, f 56, f 57, f 58, f 59, f 60, f 61, f 62, f 63, f 64, f 65, f 66, f 67, f 68, f 69, f 70, f 71, f 72, f 73, f 74, f 75, f 76, f 77, f 78, f 79, f 80, f 81, f 82, f 83, f 84, f 85, f 86, f 87, f 88, f 89, f 90, f 91, f 92, f 93, f 94, f 95, f 96, f 97, f 98, f 99, f 100, f 101, f 102, f 103, f 104, f 105, f 106, f 107, f 108, f 109, f 110, f 111, f 112, f 113, f 114, f 115, f 116, f 117, f 118, f 119, f 120, f 121, f 122, f 123, f 124, f 125, f 126, f 127, f 128, f 129, f 130, f 131, f 132, f 133, f 134, f 135, f 136, f 137, f 138, f 139, f 140, f 141, f 142, f 143, f 144, f 145, f 146, f 147, f 148, f 149, f 150, f 151, f 152, f 153, f 154, f 155, f 156, f 157, f 158, f 159, f 160, f 161, f 162, f 163, f 164, f 165, f 166, f 167, f 168, f 169, f 170, f 171, f 172, f 173, f 174, f 175, f 176, f 177, f 178, f 179, f 180, f 181, f 182, f 183, f 184, f 185, f 186, f 187, f 188, f 189, f 190, f 191, f 192, f 193, f 194, f 195, f 196, f 197, f 198, f 199, f 200], defers := [] } := by
  rw [h.lit]; rfl
def zeroA : Array Value := #[Value.int IntKind.i64 0, Value.int IntKind.i64 0, .string ⟨#[]⟩, Value.int IntKind.i64 0, Value.int IntKind.i64 0, Value.int IntKind.i64 0, Value.int IntKind.i64 0, Value.int IntKind.i64 0, Value.int IntKind.i64 0, Value.int IntKind.i64 0, Value.int IntKind.i64 0, Value.int IntKind.i64 0, Value.int IntKind.i64 0, Value.int IntKind.i64 0, Value.int IntKind.i64 0, .string ⟨#[]⟩, Value.int IntKind.i64 0, Value.int IntKind.i64 0, Value.int IntKind.i64 0, Value.int IntKind.i64 0, .slice none 0 0, Value.int IntKind.i64 0, Value.int IntKind.i64 0, Value.int IntKind.i64 0, Value.int IntKind.i64 0, .slice none 0 0, Value.int IntKind.i64 0, Value.int IntKind.i64 0, Value.int IntKind.i64 0, .string ⟨#[]⟩, Value.int IntKind.i64 0, Value.int IntKind.i64 0, Value.int IntKind.i64 0, Value.int IntKind.i64 0, Value.int IntKind.i64 0, Value.int IntKind.i64 0, .slice none 0 0]
theorem zeroA_is : (#[Value.int IntKind.i64 0, Value.int IntKind.i64 0, .string ⟨#[]⟩, Value.int IntKind.i64 0, Value.int IntKind.i64 0, Value.int IntKind.i64 0, Value.int IntKind.i64 0, Value.int IntKind.i64 0, Value.int IntKind.i64 0, Value.int IntKind.i64 0, Value.int IntKind.i64 0, Value.int IntKind.i64 0, Value.int IntKind.i64 0, Value.int IntKind.i64 0, Value.int IntKind.i64 0, .string ⟨#[]⟩, Value.int IntKind.i64 0, Value.int IntKind.i64 0, Value.int IntKind.i64 0, Value.int IntKind.i64 0, .slice none 0 0, Value.int IntKind.i64 0, Value.int IntKind.i64 0, Value.int IntKind.i64 0, Value.int IntKind.i64 0, .slice none 0 0, Value.int IntKind.i64 0, Value.int IntKind.i64 0, Value.int IntKind.i64 0, .string ⟨#[]⟩, Value.int IntKind.i64 0, Value.int IntKind.i64 0, Value.int IntKind.i64 0, Value.int IntKind.i64 0, Value.int IntKind.i64 0, Value.int IntKind.i64 0, .slice none 0 0] : Array Value) = zeroA := rfl
def KS {σ : Type} {kb : Nat} {w : World} (K : Keeper σ w.heap.size kb) (la : Value) (k c ab : Nat) (x : AV) (a : Act) (W : World) : Prop :=
  ∃ (f : Nat → Value) (s : σ) (V : World), Fr 201 a f ∧ f 0 = la ∧ f 1 = .pointer (some ⟨kb, 0, none⟩) ∧ f 5 = .int .i64 (k : Nat) ∧ f 6 = .pointer (some ⟨ab, 0, none⟩) ∧ Blk V ab x.cells.toArray 114 ∧ LV K s c [(.slice (some ⟨ab, 0, none⟩) 0 0, V)] W
theorem LV.more {σ : Type} {kb : Nat} {w : World} {K : Keeper σ w.heap.size kb} {s : σ} {c c' : Nat} {X : List (Value × World)} {W : World} (h : LV K s c X W) (hc : c ≤ c') : LV K s c' X W := ⟨h.inv, Nat.le_trans h.cnt hc, h.bel, h.liv, h.dj⟩
set_option maxRecDepth 100000 in
set_option maxHeartbeats 12800000 in
theorem kept_any {σ : Type} {kb : Nat} {w w0 : World} (K : Keeper σ w.heap.size kb) (s0 : σ) (lo : Option Addr) (n lc : Nat) (xs : List AV) (hK0 : K.Inv s0 w0) (hc0 : K.cnt s0 = 0) (hb0 : Below w.heap.size w w0) (hn : xs.length = n) (hnm : n ≤ maxLen)
    (hxs : ∀ (i : Nat) (x : AV), xs[i]? = some x → AOk w x ∧ ∃ b o, lo = some ⟨b, o, none⟩ ∧ b < w.heap.size ∧ w.rangeAt b (o + i * 37) x.cells) :
    Calls Try.prog 29 #[.slice lo n lc, .pointer (some ⟨kb, 0, none⟩)] w0 fun e w' => e = .returned (.bool true) ∧ Below w.heap.size w w' := by
  have HX : Hid _ := hxs
  have HN : Hid _ := hn
  unfold maxLen at hnm
  clear hxs hn
  go_enter Try.func29, Try.ntmps29
  go_wp2_with fail
  refine wp_loop_ghost_k (fun q a wr => ∃ (k : Nat) (f : Nat → Value) (s : σ), q = 30 - k ∧ k ≤ 30 ∧ k ≤ n ∧ Fr 201 a f ∧ f 0 = .slice lo n lc ∧ f 1 = .pointer (some ⟨kb, 0, none⟩) ∧ f 5 = .int .i64 (k : Nat) ∧ LV K s (k * 180) [] wr) 30 ⟨0, _, s0, rfl, by omega, by omega, Fr.ofLit _ rfl, rfl, rfl, rfl, ⟨hK0, by omega, hb0, (fun p hp => by cases hp), List.Pairwise.nil⟩⟩ ?_
  rintro q a wr ⟨k, f, s, rfl, hk30, hkn, F, k0, k1, k5, hLV⟩ J K' hJ hK'
  rw [lit201 F, k0, k1, k5]
  clear F k0 k1 k5
  have HLV : Hid _ := hLV
  have HJ : Hid _ := hJ
  have HK' : Hid _ := hK'
  clear hLV hJ hK'
  by_cases hlt : k < n
  · by_cases hlt30 : k < 30
    · have hi1 : (k : Int) < (n : Int) := by omega
      have hi2 : (k : Int) < 30 := by omega
      obtain ⟨x, hx⟩ : ∃ x, xs[k]? = some x := ⟨_, List.getElem?_eq_getElem (by rw [HN.out]; exact hlt)⟩
      obtain ⟨hOk, b, o, rfl, hbw, hra⟩ := HX.out k x hx
      have hra' : wr.rangeAt b (o + k * 37) x.cells.toArray.toList := fun j v hv => by
        have h1 := hra j v (by simpa using hv)
        have h2 := HLV.out.bel.block b hbw
        rw [World.cell?_of_block (w := w) h2]
        exact h1
      obtain ⟨A, hA⟩ : ∃ A, A = x.cells.toArray := ⟨_, rfl⟩
      have hall : A.all (·.oneCell') = true := by rw [hA]; exact hOk.all
      have sA : A.size = 37 := by rw [hA]; rfl
      have iA : (Try.prog.info? 114).map (·.size) = some A.size := by rw [sA]; kernel_rfl
      rw [← hA] at hra'
      have hZ : Blk (wr.alloc (.cells zeroA 114)) wr.heap.size zeroA 114 := heap_alloc_new wr _
      obtain ⟨hBA, hbA, hsA⟩ := box_new wr zeroA A 114
      obtain ⟨ab, hab⟩ : ∃ ab, ab = wr.heap.size := ⟨_, rfl⟩
      have hL1 := HLV.out.new hbA (.slice (some ⟨ab, 0, none⟩) 0 0) (fun g e => by have h1 : g = ab := (Option.some.inj e).symm; rw [h1]; exact ⟨by omega, by rw [hsA]; omega⟩)
      obtain ⟨W0, hW0⟩ : ∃ W0, W0 = (wr.alloc (.cells zeroA 114)).setRow wr.heap.size A := ⟨_, rfl⟩
      rw [← hW0] at hL1 hBA
      have HB0 : Hid (Blk W0 ab x.cells.toArray 114) := by rw [← hA, hab]; exact hBA
      have HL0 : Hid (LV K s (k * 180) [(.slice (some ⟨ab, 0, none⟩) 0 0, W0)] W0) := hL1
      have HW0 : Hid _ := hW0
      have HAB : Hid _ := hab
      have HA : Hid _ := hA
      have HOK : Hid _ := hOk
      clear hOk hra hBA hbA hsA hL1 hW0 hx hab HLV hA
      go_upto_region 5 with (first | (refine load_part rfl 114 (.tmp 41) rfl b (o + k * 37) rfl A _ hra' Try.underlying114 rfl iA ?_) | (rw [zeroA_is]; refine wpList_store_row rfl 114 (.tmp 6) (.tmp 42) rfl wr.heap.size A rfl rfl 114 zeroA hZ iA (by rw [sA]; rfl) hall ?_) | fail)
      rename_i K3 hK3 K1 hK1 KM hKM
      rw [← HW0.out, ← HAB.out]
      have HK3 : Hid _ := hK3
      have hN : ∀ a W, KS K (.slice (some ⟨b, o, none⟩) n lc) k (k * 180 + 72) ab x a W → K1 a W := by
        clear hKM KM HL0 HB0 HW0 HAB HA hZ iA sA hall hra' W0
        rintro a1 W1 ⟨f1, s1, W0, hFr, k0, k1, k5, k6, hBl, hL⟩
        have HB0 : Hid _ := hBl
        have HL : Hid _ := hL
        clear hBl hL
        apply hK1
        clear hK1
        rw [lit201 hFr, k0, k1, k5, k6]
        clear hFr k0 k1 k5 k6
        refine wp_seq_rest (KS K (.slice (some ⟨b, o, none⟩) n lc) k (k * 180 + 144) ab x) ?_ ?_
        · clear HL HB0 W1 a1 f1 s1 W0
          rintro a1 W1 ⟨f1, s1, W0, hFr, k0, k1, k5, k6, hBl, hL⟩
          have HB0 : Hid _ := hBl
          have HL : Hid _ := hL
          clear hBl hL
          rw [lit201 hFr, k0, k1, k5, k6]
          clear hFr k0 k1 k5 k6
          obtain ⟨F, HF⟩ : ∃ F, Hid (F = callCells x.q) := ⟨_, rfl⟩
          obtain ⟨G, HG⟩ : ∃ F, Hid (F = opCells x.o) := ⟨_, rfl⟩
          obtain ⟨Hr, HH⟩ : ∃ F, Hid (F = repCells x.r) := ⟨_, rfl⟩
          have iF : (Try.prog.info? 29).map (·.size) = some F.size := by rw [HF.out]; kernel_rfl
          have iG : (Try.prog.info? 31).map (·.size) = some G.size := by rw [HG.out]; kernel_rfl
          have iH : (Try.prog.info? 55).map (·.size) = some Hr.size := by rw [HH.out]; kernel_rfl
          have hP := Blk.parts (HL.out.blk (by simp) HB0.out)
          have hmF : W1.rangeAt ab 26 F.toList := by rw [HF.out]; exact hP.q
          have hmG : W1.rangeAt ab 28 G.toList := by rw [HG.out]; exact hP.o
          have hcl := c_req HL.out HOK.out
          rw [← HF.out, ← HG.out] at hcl
          clear hP HL
          go_wp2_with (first | (refine load_part rfl 29 (.tmp 180) rfl ab 26 rfl F _ hmF Try.underlying29 rfl iF ?_) | (refine load_part rfl 31 (.tmp 182) rfl ab 28 rfl G _ hmG Try.underlying31 rfl iG ?_) | fail)
          refine hcl.mono ?_
          rintro e2 W2 ⟨v2, er2, bs2, rfl, r2, hn2, hL⟩
          have hpu := LV.putB [] [(.slice (some ⟨ab, 0, none⟩) 0 0, W0)] hL (by omega) (Nat.le_refl _) r2 hn2
          simp only [List.nil_append] at hpu
          clear hL r2 hcl hmF hmG
          go_wp2_with fail
          refine hpu.mono ?_
          rintro e3 W3 ⟨rfl, s3, hL⟩
          have hmH : W3.rangeAt ab 32 Hr.toList := by rw [HH.out]; exact (Blk.parts (hL.blk (by simp) HB0.out)).r
          have hcl := c_rep hL HOK.out
          rw [← HH.out] at hcl
          clear hpu hL
          go_wp2_with (first | (refine load_part rfl 55 (.tmp 191) rfl ab 32 rfl Hr _ hmH Try.underlying55 rfl iH ?_) | fail)
          refine hcl.mono ?_
          rintro e4 W4 ⟨v4, er4, bs4, rfl, r4, hn4, hL⟩
          have hpu := LV.putB [] [(.slice (some ⟨ab, 0, none⟩) 0 0, W0)] hL (by omega) (Nat.le_refl _) r4 hn4
          simp only [List.nil_append] at hpu
          clear hL r4 hcl hmH
          go_wp2_with fail
          refine hpu.mono ?_
          rintro e5 W5 ⟨rfl, s5, hL⟩
          have HL : Hid _ := hL.sub (Y := []) (by simp)
          clear hpu hL
          go_wp2_with fail
          try refine HK'.out _ _ ?_
          exact Handed.intro (30 - (k + 1)) (by omega) (HJ.out _ _ _ ⟨k + 1, _, _, rfl, by omega, by omega, Fr.ofLit _ rfl, rfl, rfl, by go_num, HL.out.more (by omega)⟩)
        · intro KN hN
          obtain ⟨E, HE⟩ : ∃ E, Hid (E = x.E) := ⟨_, rfl⟩
          have sE : E.size = 5 := by rw [HE.out]; rfl
          have iE : (Try.prog.info? 46).map (·.size) = some E.size := by rw [sE]; kernel_rfl
          have HP : Hid (∀ {s : σ} {c : Nat} {X : List (Value × World)} {W : World}, LV K s c X W → (Value.slice (some ⟨ab, 0, none⟩) 0 0, W0) ∈ X → W.rangeAt ab 21 E.toList) := fun h hm => by rw [HE.out]; exact (Blk.parts (h.blk hm HB0.out)).s
          have hval := c_right (x := x) HL.out
          rw [← HE.out] at hval
          have hm := HP.out HL.out (by simp)
          go_wp2_with (first | (refine load_part rfl 46 (.tmp 113) rfl ab 21 rfl E _ hm Try.underlying46 rfl iE ?_) | fail)
          refine hval.mono ?_
          rintro e2 W2 ⟨rfl, hL⟩
          clear hval hm HL
          cases hvb : segRight x.s
          · have HL : Hid _ := hL
            clear hL
            go_wp2_with fail
            first | exact hN _ _ ⟨_, _, W0, Fr.ofLit _ rfl, rfl, rfl, rfl, rfl, HB0.out, HL.out.more (by omega)⟩ | exact ⟨_, _, W0, Fr.ofLit _ rfl, rfl, rfl, rfl, rfl, HB0.out, HL.out.more (by omega)⟩
          · have his := segRight_is x.s
            rw [hvb] at his
            obtain ⟨bs, hbs⟩ := Option.isSome_iff_exists.1 his
            have h3400 : bs.length ≤ 5000 := by have := (seg4020 hbs).2; omega
            have h4000 := seg_data hbs
            have HBS : Hid _ := hbs
            clear his hbs
            have hen := c_encS hL HOK.out HBS.out
            rw [← HE.out] at hen
            have hm := HP.out hL (by simp)
            clear hL
            go_wp2_with (first | (refine load_part rfl 46 (.tmp 117) rfl ab 21 rfl E _ hm Try.underlying46 rfl iE ?_) | fail)
            refine hen.mono ?_
            rintro e3 W3 ⟨g3, c3, rfl, hc3, r3, hL⟩
            have R3 : Hid _ := r3
            clear hen hm r3
            have hen := c_encS hL HOK.out HBS.out
            rw [← HE.out] at hen
            have hm := HP.out hL (by simp)
            clear hL
            go_wp2_with (first | (refine load_part rfl 46 (.tmp 123) rfl ab 21 rfl E _ hm Try.underlying46 rfl iE ?_) | fail)
            refine hen.mono ?_
            rintro e4 W4 ⟨g4, c4, rfl, hc4, r4, hL⟩
            have R4 : Hid _ := r4
            clear hen hm r4
            have hde := c_decS (x := x) hL HBS.out hc3 (by simp) R3.out
            have HL : Hid _ := hL
            clear hL
            go_wp2_with fail
            refine hde.mono ?_
            rintro e6 W6 ⟨ao6, c6, rfl, r6, hL⟩
            obtain ⟨D6, HD6⟩ : ∃ D6, Hid (D6 = segCells x.s.src x.s.dst x.s.seq x.s.ack (.slice ao6 x.s.data.length c6)) := ⟨_, rfl⟩
            rw [← HD6.out]
            have hall6 : D6.all (·.oneCell') = true := by rw [HD6.out]; simp [segCells, Value.oneCell', Str]
            have sD6 : D6.size = 5 := by rw [HD6.out]; rfl
            have iD6 : (Try.prog.info? 46).map (·.size) = some D6.size := by rw [sD6]; kernel_rfl
            have hZ6 : Blk (W6.alloc (.cells zeroS 46)) W6.heap.size zeroS 46 := heap_alloc_new W6 _
            obtain ⟨hL, hB6⟩ := c_box hL zeroS D6 46
            obtain ⟨b6, hb6⟩ : ∃ b, b = W6.heap.size := ⟨_, rfl⟩
            obtain ⟨U6, hU6⟩ : ∃ U, U = (W6.alloc (.cells zeroS 46)).setRow W6.heap.size D6 := ⟨_, rfl⟩
            rw [← hU6, ← hb6] at hL hB6
            have HB6 : Hid _ := hb6
            have HU6 : Hid _ := hU6
            have B6 : Hid _ := hB6
            have R6 : Hid _ := r6
            clear hde HL hb6 hU6 hB6 r6
            have hde := c_decS (x := x) hL HBS.out hc4 (by simp) R4.out
            have HL : Hid _ := hL
            clear hL
            go_wp2_with (first | (rw [zeroS_is]; refine wpList_store_row rfl 46 (.tmp 21) (.tmp 131) rfl W6.heap.size D6 rfl rfl 46 zeroS hZ6 iD6 (by rw [sD6]; rfl) hall6 ?_) | fail)
            rw [← HU6.out, ← HB6.out]
            refine hde.mono ?_
            rintro e7 W7 ⟨ao7, c7, rfl, r7, hL⟩
            obtain ⟨D7, HD7⟩ : ∃ D7, Hid (D7 = segCells x.s.src x.s.dst x.s.seq x.s.ack (.slice ao7 x.s.data.length c7)) := ⟨_, rfl⟩
            rw [← HD7.out]
            have hall7 : D7.all (·.oneCell') = true := by rw [HD7.out]; simp [segCells, Value.oneCell', Str]
            have sD7 : D7.size = 5 := by rw [HD7.out]; rfl
            have iD7 : (Try.prog.info? 46).map (·.size) = some D7.size := by rw [sD7]; kernel_rfl
            have hZ7 : Blk (W7.alloc (.cells zeroS 46)) W7.heap.size zeroS 46 := heap_alloc_new W7 _
            obtain ⟨hL, hB7⟩ := c_box hL zeroS D7 46
            obtain ⟨b7, hb7⟩ : ∃ b, b = W7.heap.size := ⟨_, rfl⟩
            obtain ⟨U7, hU7⟩ : ∃ U, U = (W7.alloc (.cells zeroS 46)).setRow W7.heap.size D7 := ⟨_, rfl⟩
            rw [← hU7, ← hb7] at hL hB7
            have HB7 : Hid _ := hb7
            have HU7 : Hid _ := hU7
            have B7 : Hid _ := hB7
            have R7 : Hid _ := r7
            clear hde HL hb7 hU7 hB7 r7
            have hpu := LV.putB [(.slice (some ⟨b7, 0, none⟩) 0 0, U7), (.slice ao7 x.s.data.length c7, W7), (.slice (some ⟨b6, 0, none⟩) 0 0, U6), (.slice ao6 x.s.data.length c6, W6), (.slice (some ⟨g4, 0, none⟩) bs.length c4, W4)] [(.slice (some ⟨ab, 0, none⟩) 0 0, W0)] hL (by omega) (Nat.le_refl _) R3.out (by omega)
            simp only [List.cons_append, List.nil_append] at hpu
            have HL : Hid _ := hL
            clear hL
            go_wp2_with (first | (rw [zeroS_is]; refine wpList_store_row rfl 46 (.tmp 24) (.tmp 137) rfl W7.heap.size D7 rfl rfl 46 zeroS hZ7 iD7 (by rw [sD7]; rfl) hall7 ?_) | fail)
            rw [← HU7.out, ← HB7.out]
            refine hpu.mono ?_
            rintro e8 W8 ⟨rfl, s8, hL⟩
            clear hpu HL
            have hpu := LV.putB [(.slice (some ⟨b7, 0, none⟩) 0 0, U7), (.slice ao7 x.s.data.length c7, W7), (.slice (some ⟨b6, 0, none⟩) 0 0, U6), (.slice ao6 x.s.data.length c6, W6)] [(.slice (some ⟨ab, 0, none⟩) 0 0, W0)] hL (by omega) (Nat.le_refl _) R4.out (by omega)
            simp only [List.cons_append, List.nil_append] at hpu
            have HL : Hid _ := hL
            clear hL
            go_wp2_with fail
            refine hpu.mono ?_
            rintro e9 W9 ⟨rfl, s9, hL⟩
            clear hpu HL
            have hsm := c_sameS hL HOK.out (by simp) R6.out
            rw [← HD6.out, ← HE.out] at hsm
            have hbx := hL.blk (by simp) B6.out
            have hm := HP.out hL (by simp)
            clear hL
            go_wp2_with (first | (refine load_row_g 46 (.tmp 21) rfl (by rfl) b6 rfl 46 D6 (0, 0) _ hbx Try.underlying46 iD6 ?_) | (refine load_part (by rfl) 46 (.tmp 154) rfl ab 21 rfl E _ hm Try.underlying46 rfl iE ?_) | fail)
            refine hsm.mono ?_
            rintro e10 W10 ⟨rfl, hL⟩
            clear hsm hbx hm
            have hsm := c_sameS hL HOK.out (by simp) R7.out
            rw [← HD7.out, ← HE.out] at hsm
            have hbx := hL.blk (by simp) B7.out
            have hm := HP.out hL (by simp)
            clear hL
            go_wp2_with (first | (refine load_row_g 46 (.tmp 24) rfl (by rfl) b7 rfl 46 D7 (0, 0) _ hbx Try.underlying46 iD7 ?_) | (refine load_part (by rfl) 46 (.tmp 161) rfl ab 21 rfl E _ hm Try.underlying46 rfl iE ?_) | fail)
            refine hsm.mono ?_
            rintro e11 W11 ⟨rfl, hL⟩
            clear hsm hbx hm
            have hcv : W11.cell? ⟨b6, 4, none⟩ = some (.slice ao6 x.s.data.length c6) := ((hL.blk (by simp) B6.out).cell 4).trans (by rw [HD6.out]; rfl)
            have hpu := LV.putB [(.slice (some ⟨b7, 0, none⟩) 0 0, U7), (.slice ao7 x.s.data.length c7, W7), (.slice (some ⟨b6, 0, none⟩) 0 0, U6)] [(.slice (some ⟨ab, 0, none⟩) 0 0, W0)] hL (by omega) (Nat.le_refl _) R6.out (by omega)
            simp only [List.cons_append, List.nil_append] at hpu
            have HL : Hid _ := hL
            clear hL
            go_wp2_with fail
            refine hpu.mono ?_
            rintro e12 W12 ⟨rfl, s12, hL⟩
            clear hpu HL hcv
            have hsm := c_sameS hL HOK.out (by simp) R7.out
            rw [← HD7.out, ← HE.out] at hsm
            have hbx := hL.blk (by simp) B7.out
            have hm := HP.out hL (by simp)
            clear hL
            go_wp2_with (first | (refine wpList_load_row rfl 46 (.tmp 24) rfl b7 rfl 46 D7 (0, 0) _ hbx Try.underlying46 rfl iD7 ?_) | (refine load_part rfl 46 (.tmp 171) rfl ab 21 rfl E _ hm Try.underlying46 rfl iE ?_) | fail)
            refine hsm.mono ?_
            rintro e13 W13 ⟨rfl, hL⟩
            clear hsm hbx hm
            have hcv : W13.cell? ⟨b7, 4, none⟩ = some (.slice ao7 x.s.data.length c7) := ((hL.blk (by simp) B7.out).cell 4).trans (by rw [HD7.out]; rfl)
            have hpu := LV.putB [(.slice (some ⟨b7, 0, none⟩) 0 0, U7)] [(.slice (some ⟨b6, 0, none⟩) 0 0, U6), (.slice (some ⟨ab, 0, none⟩) 0 0, W0)] hL (by omega) (Nat.le_refl _) R7.out (by omega)
            simp only [List.cons_append, List.nil_append] at hpu
            have HL : Hid _ := hL
            clear hL
            go_wp2_with fail
            refine hpu.mono ?_
            rintro e14 W14 ⟨rfl, s14, hL⟩
            clear hpu HL hcv
            have HL : Hid _ := hL.sub (Y := [(.slice (some ⟨ab, 0, none⟩) 0 0, W0)]) (by simp)
            clear hL
            go_wp2_with fail
            first | exact hN _ _ ⟨_, _, W0, Fr.ofLit _ rfl, rfl, rfl, rfl, rfl, HB0.out, HL.out.more (by omega)⟩ | exact ⟨_, _, W0, Fr.ofLit _ rfl, rfl, rfl, rfl, rfl, HB0.out, HL.out.more (by omega)⟩
      clear hK1
      obtain ⟨W1, hW1⟩ : ∃ W, W = W0 := ⟨_, rfl⟩
      have HL : Hid (LV K s (k * 180) [(.slice (some ⟨ab, 0, none⟩) 0 0, W0)] W1) := by rw [hW1]; exact HL0.out
      rw [← hW1]
      clear HL0 hra' hall sA iA hZ HW0 HAB HA hW1
      obtain ⟨D, HD⟩ : ∃ D, Hid (D = x.D) := ⟨_, rfl⟩
      have sD : D.size = 20 := by rw [HD.out]; rfl
      have iD : (Try.prog.info? 35).map (·.size) = some D.size := by rw [sD]; kernel_rfl
      have HP : Hid (∀ {s : σ} {c : Nat} {X : List (Value × World)} {W : World}, LV K s c X W → (Value.slice (some ⟨ab, 0, none⟩) 0 0, W0) ∈ X → W.rangeAt ab 1 D.toList) := fun h hm => by rw [HD.out]; exact (Blk.parts (h.blk hm HB0.out)).m
      have hval := c_valid HL.out HOK.out
      rw [← HD.out] at hval
      have hm := HP.out HL.out (by simp)
      go_wp2_with (first | (refine load_part rfl 35 (.tmp 43) rfl ab 1 rfl D _ hm Try.underlying35 rfl iD ?_) | fail)
      refine hval.mono ?_
      rintro e2 W2 ⟨rfl, hL⟩
      clear hval hm HL
      cases hvb : validB x.m
      · have HL : Hid _ := hL
        clear hL
        go_wp2_with fail
        first | exact hN _ _ ⟨_, _, W0, Fr.ofLit _ rfl, rfl, rfl, rfl, rfl, HB0.out, HL.out.more (by omega)⟩ | exact ⟨_, _, W0, Fr.ofLit _ rfl, rfl, rfl, rfl, rfl, HB0.out, HL.out.more (by omega)⟩
      · have his := validB_is x.m HOK.out.a1 HOK.out.a2 HOK.out.b1 HOK.out.b2
        rw [hvb] at his
        obtain ⟨bs, hbs⟩ := Option.isSome_iff_exists.1 his
        have h3400 : bs.length ≤ 5000 := by have := wr3400 hbs; omega
        have HBS : Hid _ := hbs
        clear his hbs
        have hen := c_enc hL HOK.out HBS.out
        rw [← HD.out] at hen
        have hm := HP.out hL (by simp)
        clear hL
        go_wp2_with (first | (refine load_part rfl 35 (.tmp 47) rfl ab 1 rfl D _ hm Try.underlying35 rfl iD ?_) | fail)
        refine hen.mono ?_
        rintro e3 W3 ⟨g3, c3, rfl, hc3, r3, hL⟩
        have R3 : Hid _ := r3
        clear hen hm r3
        have hen := c_enc hL HOK.out HBS.out
        rw [← HD.out] at hen
        have hm := HP.out hL (by simp)
        clear hL
        go_wp2_with (first | (refine load_part rfl 35 (.tmp 53) rfl ab 1 rfl D _ hm Try.underlying35 rfl iD ?_) | fail)
        refine hen.mono ?_
        rintro e4 W4 ⟨g4, c4, rfl, hc4, r4, hL⟩
        have R4 : Hid _ := r4
        clear hen hm r4
        have hal := c_alike hL (by simp) R3.out (by simp) R4.out
        have HL : Hid _ := hL
        clear hL
        go_wp2_with fail
        refine hal.mono ?_
        rintro e5 W5 ⟨rfl, rfl⟩
        have hL := HL.out
        clear hal HL
        have hde := c_dec (x := x) hL HBS.out hc3 (by simp) R3.out
        have HL : Hid _ := hL
        clear hL
        go_wp2_with fail
        refine hde.mono ?_
        rintro e6 W6 ⟨ao6, c6, rfl, r6, h64, hL⟩
        obtain ⟨D6, HD6⟩ : ∃ D6, Hid (D6 = msgCells x.m (.slice ao6 x.m.views.length c6)) := ⟨_, rfl⟩
        rw [← HD6.out]
        have hall6 : D6.all (·.oneCell') = true := by rw [HD6.out]; simp [msgCells, Value.oneCell', Str]
        have sD6 : D6.size = 20 := by rw [HD6.out]; rfl
        have iD6 : (Try.prog.info? 35).map (·.size) = some D6.size := by rw [sD6]; kernel_rfl
        have hZ6 : Blk (W6.alloc (.cells zeroC 35)) W6.heap.size zeroC 35 := heap_alloc_new W6 _
        obtain ⟨hL, hB6⟩ := c_box hL zeroC D6 35
        obtain ⟨b6, hb6⟩ : ∃ b, b = W6.heap.size := ⟨_, rfl⟩
        obtain ⟨U6, hU6⟩ : ∃ U, U = (W6.alloc (.cells zeroC 35)).setRow W6.heap.size D6 := ⟨_, rfl⟩
        rw [← hU6, ← hb6] at hL hB6
        have HB6 : Hid _ := hb6
        have HU6 : Hid _ := hU6
        have B6 : Hid _ := hB6
        have R6 : Hid _ := r6
        clear hde HL hb6 hU6 hB6 r6
        have hde := c_dec (x := x) hL HBS.out hc4 (by simp) R4.out
        have HL : Hid _ := hL
        clear hL
        go_wp2_with (first | (rw [zero_is]; refine wpList_store_row rfl 35 (.tmp 11) (.tmp 65) rfl W6.heap.size D6 rfl rfl 35 zeroC hZ6 iD6 (by rw [sD6]; rfl) hall6 ?_) | fail)
        rw [← HU6.out, ← HB6.out]
        refine hde.mono ?_
        rintro e7 W7 ⟨ao7, c7, rfl, r7, h64, hL⟩
        obtain ⟨D7, HD7⟩ : ∃ D7, Hid (D7 = msgCells x.m (.slice ao7 x.m.views.length c7)) := ⟨_, rfl⟩
        rw [← HD7.out]
        have hall7 : D7.all (·.oneCell') = true := by rw [HD7.out]; simp [msgCells, Value.oneCell', Str]
        have sD7 : D7.size = 20 := by rw [HD7.out]; rfl
        have iD7 : (Try.prog.info? 35).map (·.size) = some D7.size := by rw [sD7]; kernel_rfl
        have hZ7 : Blk (W7.alloc (.cells zeroC 35)) W7.heap.size zeroC 35 := heap_alloc_new W7 _
        obtain ⟨hL, hB7⟩ := c_box hL zeroC D7 35
        obtain ⟨b7, hb7⟩ : ∃ b, b = W7.heap.size := ⟨_, rfl⟩
        obtain ⟨U7, hU7⟩ : ∃ U, U = (W7.alloc (.cells zeroC 35)).setRow W7.heap.size D7 := ⟨_, rfl⟩
        rw [← hU7, ← hb7] at hL hB7
        have HB7 : Hid _ := hb7
        have HU7 : Hid _ := hU7
        have B7 : Hid _ := hB7
        have R7 : Hid _ := r7
        clear hde HL hb7 hU7 hB7 r7
        have hpu := LV.putB [(.slice (some ⟨b7, 0, none⟩) 0 0, U7), (.slice ao7 x.m.views.length c7, W7), (.slice (some ⟨b6, 0, none⟩) 0 0, U6), (.slice ao6 x.m.views.length c6, W6), (.slice (some ⟨g4, 0, none⟩) bs.length c4, W5)] [(.slice (some ⟨ab, 0, none⟩) 0 0, W0)] hL (by omega) (Nat.le_refl _) R3.out (by omega)
        simp only [List.cons_append, List.nil_append] at hpu
        have HL : Hid _ := hL
        clear hL
        go_wp2_with (first | (rw [zero_is]; refine wpList_store_row rfl 35 (.tmp 14) (.tmp 71) rfl W7.heap.size D7 rfl rfl 35 zeroC hZ7 iD7 (by rw [sD7]; rfl) hall7 ?_) | fail)
        rw [← HU7.out, ← HB7.out]
        refine hpu.mono ?_
        rintro e8 W8 ⟨rfl, s8, hL⟩
        clear hpu HL
        have hsm := c_same hL HOK.out h64 (by simp) R6.out
        rw [← HD6.out, ← HD.out] at hsm
        have hbx := hL.blk (by simp) B6.out
        have hm := HP.out hL (by simp)
        clear hL
        go_wp2_with (first | (refine load_row_g 35 (.tmp 11) rfl (by rfl) b6 rfl 35 D6 (0, 0) _ hbx Try.underlying35 iD6 ?_) | (refine load_part (by rfl) 35 (.tmp 85) rfl ab 1 rfl D _ hm Try.underlying35 rfl iD ?_) | fail)
        refine hsm.mono ?_
        rintro e9 W9 ⟨rfl, hL⟩
        clear hsm hbx hm
        have hsm := c_same hL HOK.out h64 (by simp) R7.out
        rw [← HD7.out, ← HD.out] at hsm
        have hbx := hL.blk (by simp) B7.out
        have hm := HP.out hL (by simp)
        clear hL
        go_wp2_with (first | (refine load_row_g 35 (.tmp 14) rfl (by rfl) b7 rfl 35 D7 (0, 0) _ hbx Try.underlying35 iD7 ?_) | (refine load_part (by rfl) 35 (.tmp 92) rfl ab 1 rfl D _ hm Try.underlying35 rfl iD ?_) | fail)
        refine hsm.mono ?_
        rintro e10 W10 ⟨rfl, hL⟩
        clear hsm hbx hm
        have hcv : W10.cell? ⟨b6, 19, none⟩ = some (.slice ao6 x.m.views.length c6) := ((hL.blk (by simp) B6.out).cell 19).trans (by rw [HD6.out]; rfl)
        have hpu := LV.putV [(.slice (some ⟨b7, 0, none⟩) 0 0, U7), (.slice ao7 x.m.views.length c7, W7), (.slice (some ⟨b6, 0, none⟩) 0 0, U6)] [(.slice (some ⟨g4, 0, none⟩) bs.length c4, W5), (.slice (some ⟨ab, 0, none⟩) 0 0, W0)] hL (by omega) (Nat.le_refl _) R6.out (by omega)
        simp only [List.cons_append, List.nil_append] at hpu
        have HL : Hid _ := hL
        clear hL
        go_wp2_with fail
        refine hpu.mono ?_
        rintro e11 W11 ⟨rfl, s11, hL⟩
        clear hpu HL hcv
        have hsm := c_same hL HOK.out h64 (by simp) R7.out
        rw [← HD7.out, ← HD.out] at hsm
        have hbx := hL.blk (by simp) B7.out
        have hm := HP.out hL (by simp)
        clear hL
        go_wp2_with (first | (refine wpList_load_row rfl 35 (.tmp 14) rfl b7 rfl 35 D7 (0, 0) _ hbx Try.underlying35 rfl iD7 ?_) | (refine load_part rfl 35 (.tmp 102) rfl ab 1 rfl D _ hm Try.underlying35 rfl iD ?_) | fail)
        refine hsm.mono ?_
        rintro e12 W12 ⟨rfl, hL⟩
        clear hsm hbx hm
        have hcv : W12.cell? ⟨b7, 19, none⟩ = some (.slice ao7 x.m.views.length c7) := ((hL.blk (by simp) B7.out).cell 19).trans (by rw [HD7.out]; rfl)
        have hpu := LV.putV [(.slice (some ⟨b7, 0, none⟩) 0 0, U7)] [(.slice (some ⟨b6, 0, none⟩) 0 0, U6), (.slice (some ⟨g4, 0, none⟩) bs.length c4, W5), (.slice (some ⟨ab, 0, none⟩) 0 0, W0)] hL (by omega) (Nat.le_refl _) R7.out (by omega)
        simp only [List.cons_append, List.nil_append] at hpu
        have HL : Hid _ := hL
        clear hL
        go_wp2_with fail
        refine hpu.mono ?_
        rintro e13 W13 ⟨rfl, s13, hL⟩
        clear hpu HL hcv
        have hpu := LV.putB [(.slice (some ⟨b7, 0, none⟩) 0 0, U7), (.slice (some ⟨b6, 0, none⟩) 0 0, U6)] [(.slice (some ⟨ab, 0, none⟩) 0 0, W0)] hL (by omega) (Nat.le_refl _) R4.out (by omega)
        simp only [List.cons_append, List.nil_append] at hpu
        have HL : Hid _ := hL
        clear hL
        go_wp2_with fail
        refine hpu.mono ?_
        rintro e14 W14 ⟨rfl, s14, hL⟩
        clear hpu HL
        have HL : Hid _ := hL.sub (Y := [(.slice (some ⟨ab, 0, none⟩) 0 0, W0)]) (by simp)
        clear hL
        go_wp2_with fail
        first | exact hN _ _ ⟨_, _, W0, Fr.ofLit _ rfl, rfl, rfl, rfl, rfl, HB0.out, HL.out.more (by omega)⟩ | exact ⟨_, _, W0, Fr.ofLit _ rfl, rfl, rfl, rfl, rfl, HB0.out, HL.out.more (by omega)⟩
    · have hk : k = 30 := by omega
      have hi1 : (k : Int) < (n : Int) := by omega
      have hi2 : ¬ (k : Int) < 30 := by omega
      have hwh := K.whole HLV.out.inv (by have := HLV.out.cnt; omega)
      have HLL : Hid _ := HLV.out
      clear HLV
      go_wp2_with fail
      refine hwh.mono ?_
      rintro e9 w9 ⟨rfl, hc9⟩
      have HB : Hid (Below w.heap.size w w9) := HLL.out.bel.trans (hc9.below (K.low HLL.out.inv) (fun k hk => (K.lt HLL.out.inv hk).1))
      clear hwh HLL hc9
      go_wp2_with fail
      go_ret
      exact ⟨rfl, HB.out⟩
  · have hi1 : ¬ (k : Int) < (n : Int) := by omega
    have hwh := K.whole HLV.out.inv (by have := HLV.out.cnt; omega)
    have HLL : Hid _ := HLV.out
    clear HLV
    go_wp2_with fail
    refine hwh.mono ?_
    rintro e9 w9 ⟨rfl, hc9⟩
    have HB : Hid (Below w.heap.size w w9) := HLL.out.bel.trans (hc9.below (K.low HLL.out.inv) (fun k hk => (K.lt HLL.out.inv hk).1))
    clear hwh HLL hc9
    go_wp2_with fail
    go_ret
    exact ⟨rfl, HB.out⟩
end Go.Proofs.Ytfgnlfemckdfnaa.Sh
