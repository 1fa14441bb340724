import Derived.Test.YtmnihombiabkgaaStp
namespace Go.Proofs.Ytmnihombiabkgaa
open Go.RowKit Go.PlainAid Go.MapKept
set_option linter.unusedVariables false
set_option linter.unusedSimpArgs false
/-- A script as it lies in memory, whatever else is made. -/
def Acts (L0 : Nat) (W : World) (ao : Option Addr) (N : Nat) (os : List LA) : Prop := ∀ W', Below L0 W W' → ∀ i, i < N → ∃ b off o, ao = some ⟨b, off, none⟩ ∧ W'.cell? ⟨b, off + i * 4, none⟩ = some (.int .i64 o.k) ∧ W'.cell? ⟨b, off + i * 4 + 1, none⟩ = some (.int .i64 o.a) ∧ W'.cell? ⟨b, off + i * 4 + 2, none⟩ = some (.int .i64 o.b) ∧ W'.cell? ⟨b, off + i * 4 + 3, none⟩ = some (.int .i64 o.c) ∧ os[i]? = some o
/-- The keep at its beginning. -/
def Begins {σ : Type} (lt : Bool) (KP : ∀ L kb, Keeper σ L kb) (s0 : σ) : Prop := ∀ (L kb : Nat) (w : World), L ≤ kb → Blk w kb #[.bool lt, .slice none 0 0, .slice none 0 0, .slice none 0 0] 64 → (KP L kb).Inv s0 w ∧ (KP L kb).cnt s0 = 0 ∧ ∀ k, (KP L kb).bl s0 k → k = kb
def PRel {σ : Type} {L kb : Nat} (KP : Keeper σ L kb) (ab aw am : Nat) (au : Int) (rbase rb : Nat) (W : World) (m : Nat) (wr : World) : Prop := ∃ s va v σ1, PS L kb KP ⟨ab, aw, am, au⟩ rbase rb W s s va v σ1 wr ∧ s.now ≤ m ∧ s.last ≤ m ∧ KP.cnt σ1 ≤ 18 * m
set_option maxRecDepth 100000 in
set_option maxHeartbeats 6400000 in
theorem plays_any {σ : Type} {lt : Bool} (KPF : ∀ L kb, Keeper σ L kb) {s0 : σ} (hBG : Begins lt KPF s0) (z lo hi : Int) (ao : Option Addr) (N cap : Nat) (os : List LA) {L0 : Nat} (W : World) (hL0 : L0 ≤ W.heap.size) (hat : Acts L0 W ao N os) (hN : N ≤ maxLen) :
    Calls Try.prog 19 #[.int .i64 z, .slice ao N cap, .int .i64 lo, .int .i64 hi, .bool lt] W fun r w' => r = .returned (.bool true) ∧ Below L0 W w' := by
  have HAT : Hid (Acts L0 W ao N os) := hat
  have HAB : Hid _ := able_any W
  have HBG : Hid (Begins lt KPF s0) := hBG
  have HL0 : Hid (L0 ≤ W.heap.size) := hL0
  clear hat hBG hL0
  go_enter Try.func19, Try.ntmps19
  go_wp2_with fail
  refine Calls.mono HAB.out ?_
  rintro e w1 ⟨rfl, hb1⟩
  have HB1 : Hid (Below W.heap.size W w1) := hb1
  clear hb1 HAB
  by_cases hz : 1 ≤ z ∧ z ≤ 64
  · have HNEW : Hid _ := new_any z w1 hz
    have HZ : Hid (1 ≤ z ∧ z ≤ 64) := hz
    go_wp2_with fail
    refine Calls.mono HNEW.out ?_
    rintro e w2 ⟨rfl, hW2, hb2⟩
    have HW2 : Hid _ := hW2
    have HB2 : Hid (Below w1.heap.size w1 w2) := hb2
    have HRN : Hid _ := rnew_any z w2 hz
    clear HNEW hW2 hb2
    obtain ⟨aw, haw⟩ : ∃ aw, aw = w1.heap.size + 1 := ⟨_, rfl⟩
    rw [← haw] at HW2 ⊢
    have HAW : Hid (aw = w1.heap.size + 1) := haw
    clear haw
    go_wp2_with fail
    refine Calls.mono HRN.out ?_
    rintro e w3 ⟨rfl, hR3, hb3⟩
    have HR3 : Hid _ := hR3
    have HB3 : Hid (Below w2.heap.size w2 w3) := hb3
    clear HRN hR3 hb3
    obtain ⟨rb, hrb⟩ : ∃ rb, rb = w2.heap.size := ⟨_, rfl⟩
    rw [← hrb] at HR3 ⊢
    have HRB : Hid (rb = w2.heap.size) := hrb
    clear hrb
    obtain ⟨am, ham⟩ : ∃ am, am = w1.heap.size := ⟨_, rfl⟩
    obtain ⟨kb, hkb⟩ : ∃ kb, kb = w3.heap.size := ⟨_, rfl⟩
    obtain ⟨X, hX⟩ : ∃ X, X = w3.alloc (.cells #[.bool lt, .slice none 0 0, .slice none 0 0, .slice none 0 0] 64) := ⟨_, rfl⟩
    obtain ⟨L, hL⟩ : ∃ L, L = W.heap.size := ⟨_, rfl⟩
    have HR0 : Hid (PRel (KPF L kb) am aw am z rb rb W 0 X) := by
      have b12 : w1.heap.size ≤ w2.heap.size := HB2.out.size
      have b23 : w2.heap.size ≤ w3.heap.size := HB3.out.size
      have b01 : W.heap.size ≤ w1.heap.size := HB1.out.size
      have hbX : Below w3.heap.size w3 X := by rw [hX]; exact (Below.refl _ _).alloc (Nat.le_refl _) _
      have a3 := HW2.out.more HB3.out
      have a4 := a3.more hbX
      have r4 := HR3.out.more hbX
      have hBk : Blk X kb #[.bool lt, .slice none 0 0, .slice none 0 0, .slice none 0 0] 64 := by rw [hX, hkb]; exact heap_alloc_new w3 _
      have haw := HAW.out
      have hrb := HRB.out
      obtain ⟨k1, k2, k3⟩ := HBG.out L kb X (by omega) hBk
      have low : ∀ (p q : Nat) (k : Nat), wown p q nil64 k → k = p ∨ k = q := fun p q k hk => by
        rcases hk with h | h | ⟨v, hv, e⟩
        · exact Or.inl h
        · exact Or.inr h
        · unfold nil64 at hv
          rw [List.eq_of_mem_replicate hv] at e
          cases e
      have lowr : ∀ (k : Nat), rown rb (.slice none 0 0) k → k = rb := fun k hk => by
        rcases hk with h | h
        · exact h
        · cases h
      have la := HW2.out.lt (k := aw) (Or.inl rfl)
      have lr := HR3.out.b.lt
      refine ⟨⟨0, 0, []⟩, nil64, .slice none 0 0, s0, ⟨?_, ?_, k1, ?_, ?_, ?_, ?_, ?_⟩, by simp, by simp, by omega⟩
      · rw [ham]; exact ⟨a4, WB.new HZ.out⟩
      · have := r4; rw [hrb] at this ⊢; exact this
      · intro k h1 h2
        have h4 := lowr k h2
        rcases low _ _ k h1 with h | h <;> simp only at h <;> omega
      · intro k h1 h2
        have h4 := k3 k h2
        rcases low _ _ k h1 with h | h <;> simp only at h <;> omega
      · intro k h1 h2
        have h4 := k3 k h2
        have h5 := lowr k h1
        omega
      · refine ⟨?_, ?_⟩ <;> (try simp only) <;> omega
      · rw [hL]
        exact ((HB1.out.trans (HB2.out.mono b01)).trans (HB3.out.mono (by omega))).trans (hbX.mono (by omega))
    have HLW : Hid (L0 ≤ L) := show L0 ≤ L from by rw [hL]; exact HL0.out
    have HEX : Hid (X = w3.alloc (.cells #[.bool lt, .slice none 0 0, .slice none 0 0, .slice none 0 0] 64)) := hX
    have HEK : Hid (kb = w3.heap.size) := hkb
    obtain ⟨KP, hKP⟩ : ∃ KP, KP = KPF L kb := ⟨_, rfl⟩
    rw [← hKP] at HR0
    obtain ⟨ab, hab⟩ : ∃ ab, ab = am := ⟨_, rfl⟩
    obtain ⟨rbase, hrbase⟩ : ∃ rbase, rbase = rb := ⟨_, rfl⟩
    obtain ⟨au, hau⟩ : ∃ au, au = z := ⟨_, rfl⟩
    replace HR0 : Hid (PRel KP ab aw am au rbase rb W 0 X) := show PRel KP ab aw am au rbase rb W 0 X from by rw [hab, hrbase, hau]; exact HR0.out
    have hz1 : 1 ≤ z := HZ.out.1
    have hz2 : z ≤ 64 := HZ.out.2
    clear HW2 HR3 HB1 HB2 HB3 ham hkb hX hL hKP hab hrbase hau HAW HRB HBG HZ HL0 hz
    go_upto_region 10 with fail
    rw [← HEX.out, ← HEK.out]
    clear HEX HEK
    go_wp2_with fail
    go_loopw [16, 17] (fun s16 _ wr => ∃ m : Nat, m ≤ 400 ∧ s16 = .int .i64 (m : Int) ∧ PRel KP ab aw am au rbase rb W m wr) (fun s16 _ _ => 400 - (intOf s16).toNat)
    case atStart => exact ⟨0, by omega, rfl, HR0.out⟩
    case round =>
      clear HR0
      obtain ⟨m, hm, rfl, hR⟩ := hrel
      by_cases hlt : m < N
      · by_cases h400 : m < 400
        · have h4i : (m : Int) < 400 := by omega
          obtain ⟨s, va, v, σ1, hS, hs1, hs2, hs3⟩ := hR
          obtain ⟨b2, off2, o, hao, d0, d1, d2, d3, ho⟩ := HAT.out wr (hS.bl.mono HLW.out) m hlt
          subst hao
          have HT1 : Hid _ := step_any (va := va) (s := s) (v := v) (σ0 := σ1) o.k o.a o.b o.c wr hS (by omega) (by omega) (by omega)
          clear hS ho
          go_wp2_with fail
          refine Calls.mono HT1.out ?_
          rintro e w5 ⟨rfl, va5, v5, σ5, hS5, hct5⟩
          have HS5 : Hid _ := hS5
          clear hS5 HT1 d0 d1 d2 d3
          go_wp2_with fail
          go_roundw
          case rel => exact ⟨m + 1, by omega, by go_num, _, _, _, _, HS5.out, by have := (nx_now o.k o.a o.b o.c s).1; omega, by have := (nx_now o.k o.a o.b o.c s).2; omega, by omega⟩
          case measure => simp [intOf]; omega
        · have h4i : ¬ (m : Int) < 400 := by omega
          obtain ⟨s, va, v, σ1, hS, hs1, hs2, hs3⟩ := hR
          have hlA : s.A.length ≤ 1000 := by have := hS.hw.wb.len; have e : (HD.mk ab aw am au).ok s va wr := hS.hw; omega
          have HUA : Hid (Up s.A) := hS.hw.wb.up
          have HWH : Hid _ := KP.whole hS.hk (by omega)
          have HS : Hid _ := hS
          clear hS
          go_wp2_with fail
          refine Calls.mono HWH.out ?_
          rintro e w5 ⟨rfl, hc5⟩
          have HW5 : Hid (WL ab aw am au va s.now s.last s.A (s.A.map (kvT au)) w5) := HS.out.hw.wl.keep hc5 (fun j h1 h2 => HS.out.dwk j h1 h2)
          have HR5 : Hid (RW rbase rb s v w5) := HS.out.hr.keep hc5 (fun j h1 h2 => HS.out.drk j h1 h2)
          have HB5 : Hid (Below L W w5) := show Below L W w5 from HS.out.bl.trans (hc5.below HS.out.lo (fun j hj => (KP.lt HS.out.hk hj).1))
          have HL5 : Hid (L ≤ w5.heap.size) := show L ≤ w5.heap.size from Nat.le_trans HS.out.lo hc5.size
          have HLI : Hid _ := list_any (base := ab) (whb := aw) (mp := am) (u := au) w5 HW5.out HS.out.hw.wb.hu (by omega)
          clear hc5 HS HWH
          go_wp2_with fail
          refine Calls.mono HLI.out ?_
          rintro e w6 ⟨v6, S6, rfl, hS6, hr6, hb6⟩
          have HRL : Hid _ := rlist_any w6 (HR5.out.more hb6) (by omega) HUA.out
          have HR6 : Hid (w6.ownsRow w5.heap.size 50 4 v6 S6.length (flatT S6)) := hr6
          have HS6 : Hid (Srtd S6 s.A) := hS6
          have HB6 : Hid (Below L W w6) := show Below L W w6 from HB5.out.trans (hb6.mono HL5.out)
          have HL6 : Hid (L ≤ w6.heap.size) := show L ≤ w6.heap.size from Nat.le_trans HL5.out hb6.size
          clear hS6 hr6 hb6 HLI HR5 HW5 HB5 HL5
          go_wp2_with fail
          refine Calls.mono HRL.out ?_
          rintro e w7 ⟨v7, S7, rfl, hS7, hr7, hb7⟩
          obtain rfl : S7 = S6 := srtd_one HUA.out hS7 HS6.out
          have HSM : Hid _ := same_yes w7 (ownsRow_same HR6.out (fun g e => hb7.block g (ownsRow_lt HR6.out e).2)) hr7 (by rw [hS7.1.length_eq]; omega)
          have HB7 : Hid (Below L W w7) := show Below L W w7 from HB6.out.trans (hb7.mono HL6.out)
          have HL7 : Hid (L ≤ w7.heap.size) := show L ≤ w7.heap.size from Nat.le_trans HL6.out hb7.size
          clear hS7 hr7 hb7 HRL HR6 HB6 HL6
          go_wp2_with fail
          refine Calls.mono HSM.out ?_
          rintro e w8 ⟨rfl, hb8⟩
          have HB8 : Hid (Below L0 W w8) := show Below L0 W w8 from (HB7.out.trans (hb8.mono HL7.out)).mono HLW.out
          clear hb8 HSM HB7 HL7
          go_wp2_with fail
          go_ret
          exact ⟨rfl, HB8.out⟩
      · obtain ⟨s, va, v, σ1, hS, hs1, hs2, hs3⟩ := hR
        have hlA : s.A.length ≤ 1000 := by have := hS.hw.wb.len; have e : (HD.mk ab aw am au).ok s va wr := hS.hw; omega
        have HUA : Hid (Up s.A) := hS.hw.wb.up
        have HWH : Hid _ := KP.whole hS.hk (by omega)
        have HS : Hid _ := hS
        clear hS
        go_wp2_with fail
        refine Calls.mono HWH.out ?_
        rintro e w5 ⟨rfl, hc5⟩
        have HW5 : Hid (WL ab aw am au va s.now s.last s.A (s.A.map (kvT au)) w5) := HS.out.hw.wl.keep hc5 (fun j h1 h2 => HS.out.dwk j h1 h2)
        have HR5 : Hid (RW rbase rb s v w5) := HS.out.hr.keep hc5 (fun j h1 h2 => HS.out.drk j h1 h2)
        have HB5 : Hid (Below L W w5) := show Below L W w5 from HS.out.bl.trans (hc5.below HS.out.lo (fun j hj => (KP.lt HS.out.hk hj).1))
        have HL5 : Hid (L ≤ w5.heap.size) := show L ≤ w5.heap.size from Nat.le_trans HS.out.lo hc5.size
        have HLI : Hid _ := list_any (base := ab) (whb := aw) (mp := am) (u := au) w5 HW5.out HS.out.hw.wb.hu (by omega)
        clear hc5 HS HWH
        go_wp2_with fail
        refine Calls.mono HLI.out ?_
        rintro e w6 ⟨v6, S6, rfl, hS6, hr6, hb6⟩
        have HRL : Hid _ := rlist_any w6 (HR5.out.more hb6) (by omega) HUA.out
        have HR6 : Hid (w6.ownsRow w5.heap.size 50 4 v6 S6.length (flatT S6)) := hr6
        have HS6 : Hid (Srtd S6 s.A) := hS6
        have HB6 : Hid (Below L W w6) := show Below L W w6 from HB5.out.trans (hb6.mono HL5.out)
        have HL6 : Hid (L ≤ w6.heap.size) := show L ≤ w6.heap.size from Nat.le_trans HL5.out hb6.size
        clear hS6 hr6 hb6 HLI HR5 HW5 HB5 HL5
        go_wp2_with fail
        refine Calls.mono HRL.out ?_
        rintro e w7 ⟨v7, S7, rfl, hS7, hr7, hb7⟩
        obtain rfl : S7 = S6 := srtd_one HUA.out hS7 HS6.out
        have HSM : Hid _ := same_yes w7 (ownsRow_same HR6.out (fun g e => hb7.block g (ownsRow_lt HR6.out e).2)) hr7 (by rw [hS7.1.length_eq]; omega)
        have HB7 : Hid (Below L W w7) := show Below L W w7 from HB6.out.trans (hb7.mono HL6.out)
        have HL7 : Hid (L ≤ w7.heap.size) := show L ≤ w7.heap.size from Nat.le_trans HL6.out hb7.size
        clear hS7 hr7 hb7 HRL HR6 HB6 HL6
        go_wp2_with fail
        refine Calls.mono HSM.out ?_
        rintro e w8 ⟨rfl, hb8⟩
        have HB8 : Hid (Below L0 W w8) := show Below L0 W w8 from (HB7.out.trans (hb8.mono HL7.out)).mono HLW.out
        clear hb8 HSM HB7 HL7
        go_wp2_with fail
        go_ret
        exact ⟨rfl, HB8.out⟩

  · have HNEW : Hid _ := new_no z w1 hz
    have HRN : Hid _ := rnew_no z w1 hz
    have HB1' : Hid (Below L0 W w1) := show Below L0 W w1 from HB1.out.mono HL0.out
    clear HB1
    go_wp2_with fail
    refine Calls.mono HNEW.out ?_
    rintro e w2 ⟨rfl, hw2⟩
    replace hw2 := hw2.symm
    subst hw2
    go_wp2_with fail
    refine Calls.mono HRN.out ?_
    rintro e w2 ⟨rfl, hw2⟩
    replace hw2 := hw2.symm
    subst hw2
    go_wp2_with fail
    go_ret
    exact ⟨rfl, HB1'.out⟩
end Go.Proofs.Ytmnihombiabkgaa
