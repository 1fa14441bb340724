import Derived.Test.YtlajcaofpmjdlaaAp1
namespace Go.Proofs.Ytlajcaofpmjdlaa
open Go.RowKit Go.PlainAid
set_option linter.unusedVariables false
set_option linter.unusedSimpArgs false
def zB (k : Nat) : Value := .int .u8 ((k : Int) + 1)
def yB (k : Nat) : Value := .int .u8 ((k : Int) + 130)
def zI (k : Nat) : Value := .int .i64 (-1 - (k : Int))
def yI (k : Nat) : Value := .int .i64 (-1000000 - (k : Int))
theorem below_drN {L : Nat} {w w' : World} (h : Below L w w') (q : Nat) : Below L w (w'.drewN q) := ⟨h.os, h.tape, h.output, h.size, h.block⟩
theorem HP.turn {L pb : Nat} {C : Array Value} {T1 T2 T3 T4 : TypeId} {lv wv nv ov : Value} {nb nn : Nat} {V W V' W' : Nat → Value} {pre : List (Ent L)} {F G : Nat → Ent L} {post : List (Ent L)} {w : World} (h : HP L pb C T1 T2 lv wv nb V W pre F ([tailE L T3 nv nn ((List.range nn).map V'), tailE L T4 ov nn ((List.range nn).map W')] ++ (Fl nn G ++ post)) w) :
    HP L pb C T3 T4 nv ov nn V' W' [] G ((pre ++ ([tailE L T1 lv nb ((List.range nb).map V), tailE L T2 wv nb ((List.range nb).map W)] ++ Fl nb F)) ++ post) w := by
  obtain ⟨f, hf⟩ : ∃ f : Nat → List (Ent L), f = fun i => if i = 0 then pre else if i = 1 then [boxE L pb C 66] else if i = 2 then [tailE L T1 lv nb ((List.range nb).map V), tailE L T2 wv nb ((List.range nb).map W)] else if i = 3 then Fl nb F else if i = 4 then [tailE L T3 nv nn ((List.range nn).map V'), tailE L T4 ov nn ((List.range nn).map W')] else if i = 5 then Fl nn G else post := ⟨_, rfl⟩
  have h1 : Held (fl f [0, 1, 2, 3, 4, 5, 6]) w := by
    rw [hf]
    simpa [fl, HP, List.append_assoc] using h
  have h2 := Held.re f [0, 1, 2, 3, 4, 5, 6] [1, 4, 5, 0, 2, 3, 6] (by decide) h1
  rw [hf] at h2
  simpa [fl, HP, List.append_assoc] using h2
set_option maxRecDepth 100000 in
set_option maxHeartbeats 12800000 in
theorem apart_t {L pb : Nat} {C : Array Value} {lv wv nv ov : Value} {nb nn : Nat} {V W V2 W2 : Nat → Value} {s : Nat → List UInt8} {zs : Nat → List Int} {N N2 : Nat → Nat} {X X2 : Nat → List Value} {post oth R : List (Ent L)} (w : World) (h : HP L pb C 30 9 lv wv nb V W [] (rE L 5 V N X) post w) (hW : ∀ k, W k = strV (s k)) (hX : ∀ k, X k = (s k).map B) (hN : ∀ k, N k = (s k).length) (h7 : C[7]? = some lv) (h8 : C[8]? = some wv) (hnb : nb ≤ 100) (hs : ∀ k, k < nb → N k ≤ 4194304) (hX2 : ∀ k, X2 k = (zs k).map I) (hN2 : ∀ k, N2 k = (zs k).length) (h9 : C[9]? = some nv) (h10 : C[10]? = some ov) (hnn : nn ≤ 100) (hs2 : ∀ k, k < nn → N2 k ≤ 4194304) (hpo : post = [tailE L 44 nv nn ((List.range nn).map V2), tailE L 44 ov nn ((List.range nn).map W2)] ++ (Fl nn (rE L 3 V2 N2 X2) ++ (Fl nn (rE L 3 W2 N2 X2) ++ (oth ++ R)))) :
    Calls Try.prog 33 #[.pointer (some ⟨pb, 2, none⟩)] w fun e w' => e = .returned (.bool true) ∧ Below L w w' ∧ Held R w' := by
  have HS : Hid (HP L pb C 30 9 lv wv nb V W [] (rE L 5 V N X) post w) := h
  obtain ⟨lo, lc, hlv⟩ := tail_val h.tl
  have HLV : Hid (lv = .slice lo nb lc) := hlv
  have HC8 : Hid (C[8]? = some wv) := h8
  have HK : Hid (∀ (pre : List (Ent L)) (F : Nat → Ent L) (wr : World), HP L pb C 30 9 lv wv nb V W pre F post wr → wr.cell? ⟨pb, 7, none⟩ = some (.slice lo nb lc)) := fun pre F wr h => (h.box.cell 7).trans (h7.trans (by rw [hlv]))
  have HNL : Hid (∀ k, k < nb → N k ≤ 4194304) := hs
  have HXL : Hid (∀ k, k < nb → (X k).length = N k) := fun k _ => by rw [hX, hN, List.length_map]
  have HV : Hid ((∀ k, W k = strV (s k)) ∧ (∀ k, X k = (s k).map B) ∧ (∀ k, N k = (s k).length)) := ⟨hW, hX, hN⟩
  have HN2L : Hid (∀ k, k < nn → N2 k ≤ 4194304) := hs2
  have HX2L : Hid (∀ k, k < nn → (X2 k).length = N2 k) := fun k _ => by rw [hX2, hN2, List.length_map]
  have HV2 : Hid ((∀ k, X2 k = (zs k).map I) ∧ (∀ k, N2 k = (zs k).length)) := ⟨hX2, hN2⟩
  have HC9 : Hid (C[9]? = some nv) := h9
  have HC10 : Hid (C[10]? = some ov) := h10
  have HPO : Hid (post = [tailE L 44 nv nn ((List.range nn).map V2), tailE L 44 ov nn ((List.range nn).map W2)] ++ (Fl nn (rE L 3 V2 N2 X2) ++ (Fl nn (rE L 3 W2 N2 X2) ++ (oth ++ R)))) := hpo
  clear h h7 h8 hlv hs hW hX hN hX2 hN2 h9 h10 hs2 hpo
  go_enter Try.func33, Try.ntmps33
  go_wp2_with fail
  go_loopw [3] (fun s3 wr => ∃ i : Nat, i ≤ nb ∧ s3 = .int .i64 (i : Int) ∧ ∃ q, wr = w.drewN q) (fun s3 _ => nb - (intOf s3).toNat)
  case atStart => exact ⟨0, by omega, rfl, 0, rfl⟩
  case round =>
    obtain ⟨i, hi, rfl, hq⟩ := hrel
    have hst : HP L pb C 30 9 lv wv nb V W [] (rE L 5 V N X) post wr := by obtain ⟨q, e⟩ := hq; rw [e]; exact HS.out.drew q
    have k7 := HK.out _ _ _ hst
    by_cases hlt : i < nb
    · obtain ⟨g1, o1, b1, e1, kd⟩ := hst.lrow hlt
      obtain ⟨g2, o2, b2, e2, ks⟩ := hst.wrow hlt
      have hbo : lo = some ⟨g1, o1, none⟩ := by have := HLV.out; rw [e1] at this; cases this; rfl
      have k8 : wr.cell? ⟨pb, 8, none⟩ = some (.slice (some ⟨g2, o2, none⟩) nb b2) := (hst.box.cell 8).trans (HC8.out.trans (by rw [e2]))
      have hT0 : Tail wr L 5 (V i) (N i) (X i) := hst.part hlt
      have hT : Tail wr L 5 (V i) (s i).length ((s i).map B) := by rw [← HV.out.2.1, ← HV.out.2.2]; exact hT0
      have hcv : ∀ q, (convert 30 9 (V i)).run Try.prog (wr.drewN q) = .ok (.string ⟨(s i).toArray⟩) (wr.drewN q) := fun q => conv_run (tail_by (tail_same hT (fun _ _ => rfl)))
      rw [HV.out.1] at ks
      have ks' : wr.cell? ⟨g2, o2 + i, none⟩ = some (.string ⟨(s i).toArray⟩) := ks
      obtain ⟨dv, hdv⟩ : ∃ dv, dv = V i := ⟨_, rfl⟩
      obtain ⟨so, sc, hsl⟩ := tail_val hT
      rw [← hdv] at kd hcv hsl
      obtain ⟨dl, hdl⟩ : ∃ dl, dl = (s i).length := ⟨_, rfl⟩
      rw [← hdl] at hsl
      obtain ⟨ds, hds⟩ : ∃ ds, ds = s i := ⟨_, rfl⟩
      rw [← hds] at hcv ks'
      have HQ : Hid (∃ q, wr = w.drewN q) := hq
      subst hbo
      subst hsl
      clear hq hst e1 e2 hdv ks hdl hds hT hT0
      go_wp2_with fail
      go_quiet (fail)
      go_wp2_with fail
      go_roundw
      case rel => exact ⟨i + 1, by omega, by go_num, by obtain ⟨q, e⟩ := HQ.out; exact ⟨_, by rw [e]; exact drewN2 _ _ _⟩⟩
      case measure => simp [intOf]; omega
    · have hin : ¬ ((i : Int) < (nb : Int)) := by omega
      have HI : Hid (HP L pb C 30 9 lv wv nb V W [] (rE L 5 V N (mX N X zB 0 0)) post wr ∧ Below L w wr) := by
        refine ⟨by rw [mX_zero]; exact hst, ?_⟩
        obtain ⟨q, e⟩ := hq
        rw [e]
        exact below_drN (Below.refl _ _) q
      clear hq hst
      go_wp2_with fail
      clear k7
      go_loopw [4] (fun s4 wr => ∃ i : Nat, i ≤ nb ∧ s4 = .int .i64 (i : Int) ∧ HP L pb C 30 9 lv wv nb V W [] (rE L 5 V N (mX N X zB i 0)) post wr ∧ Below L w wr) (fun s4 _ => nb - (intOf s4).toNat)
      case atStart => exact ⟨0, Nat.zero_le _, rfl, HI.out.1, HI.out.2⟩
      case round =>
        clear HI
        obtain ⟨i, hi, rfl, hP, hb⟩ := hrel
        have k7 := HK.out _ _ _ hP
        have HPB : Hid (_ ∧ _) := ⟨hP, hb⟩
        clear hP hb
        by_cases hlt : i < nb
        · obtain ⟨ni, hni⟩ : ∃ ni, ni = N i := ⟨_, rfl⟩
          have HNI : Hid (ni = N i) := hni
          clear hni
          have hnl : ni ≤ 4194304 := by rw [HNI.out]; exact HNL.out i hlt
          go_wp2_with fail
          clear k7
          go_loopw [5] (fun s5 wr => ∃ j : Nat, j ≤ ni ∧ s5 = .int .i64 (j : Int) ∧ HP L pb C 30 9 lv wv nb V W [] (rE L 5 V N (mX N X zB i j)) post wr ∧ Below L w wr) (fun s5 _ => ni - (intOf s5).toNat)
          case atStart => exact ⟨0, Nat.zero_le _, rfl, HPB.out.1, HPB.out.2⟩
          case round =>
            clear HPB
            obtain ⟨j, hj, rfl, hP, hb⟩ := hrel
            have k7 := HK.out _ _ _ hP
            obtain ⟨g1, o1, b1, e1, kd⟩ := hP.lrow hlt
            have hbo : lo = some ⟨g1, o1, none⟩ := by have := HLV.out; rw [e1] at this; cases this; rfl
            have hT : Tail wr L 5 (V i) (N i) (mX N X zB i j i) := hP.part hlt
            obtain ⟨so, sc, hsl⟩ := tail_val hT
            by_cases hlt2 : j < ni
            · obtain ⟨g, off, hso⟩ : ∃ g off, so = some ⟨g, off, none⟩ := by
                obtain ⟨g, off, c', e, _⟩ := tail_at hT (List.getElem?_eq_getElem (i := j) (by rw [hT.1, ← HNI.out]; exact hlt2))
                rw [hsl] at e; cases e; exact ⟨_, _, rfl⟩
              subst hso
              obtain ⟨hfr, ⟨x, hx⟩, hP2, hb2⟩ := hP.mark hlt (HXL.out i hlt) (by rw [← HNI.out]; exact hlt2) hsl
              rw [hsl, ← HNI.out] at kd
              have HN : Hid (_ ∧ _) := ⟨hP2, hb.trans hb2⟩
              subst hbo
              clear hP hb e1 hT hsl hP2 hb2
              go_wp2_with fail
              go_roundw
              case rel => exact ⟨j + 1, by omega, by go_num, HN.out.1, HN.out.2⟩
              case measure => simp [intOf]; omega
            · have hjn : ¬ ((j : Int) < (ni : Int)) := by omega
              have hje : j = ni := by omega
              have HN : Hid (HP L pb C 30 9 lv wv nb V W [] (rE L 5 V N (mX N X zB (i + 1) 0)) post wr ∧ Below L w wr) := by
                refine ⟨?_, hb⟩
                have := hP
                rw [hje, HNI.out, mX_next N X zB i (HXL.out i hlt)] at this
                exact this
              rw [hsl, ← HNI.out] at kd
              subst hbo
              clear hP hb e1 hT hsl hje
              go_wp2_with fail
              go_roundw
              case rel => exact ⟨i + 1, by omega, by go_num, HN.out.1, HN.out.2⟩
              case measure => simp [intOf]; omega
        · have hin : ¬ ((i : Int) < (nb : Int)) := by omega
          have hie : i = nb := by omega
          have h9 := HPB.out
          rw [hie] at h9
          have HG : Hid (GP L pb C 30 9 5 lv wv nb V W N zB yB 600 (0) (0) (.slice none 0 0) (V) post wr ∧ Below L w wr) := ⟨GP.start h9.1 _ _, h9.2⟩
          clear HPB hi hie h9
          go_wp2_with fail
          clear k7
          go_loopw [6, 7] (fun s6 s7 wr => ∃ (i : Nat) (U : Nat → Value), i ≤ nb ∧ (∃ fo fc, s6 = .slice fo i fc) ∧ s7 = .int .i64 (i : Int) ∧ (∀ k, i ≤ k → U k = V k) ∧ GP L pb C 30 9 5 lv wv nb V W N zB yB 600 (i) (0) (s6) (U) post wr ∧ Below L w wr) (fun _ s7 _ => nb - (intOf s7).toNat)
          case atStart => exact ⟨0, V, Nat.zero_le _, ⟨_, _, rfl⟩, rfl, fun _ _ => rfl, HG.out.1, HG.out.2⟩
          case round =>
            clear HG
            obtain ⟨i, U, hi, ⟨fo, fc, rfl⟩, rfl, hUV, hG, hb⟩ := hrel
            have k7 := HK.out _ _ _ hG.h
            by_cases hlt : i < nb
            · obtain ⟨g1, o1, b1, e1, kd⟩ := hG.h.lrow hlt
              have hbo : lo = some ⟨g1, o1, none⟩ := by have := HLV.out; rw [e1] at this; cases this; rfl
              obtain ⟨so, sc, hsl⟩ := tail_val (hG.rows hlt).1
              obtain ⟨ni, hni⟩ : ∃ ni, ni = N i := ⟨_, rfl⟩
              have HNI : Hid (ni = N i) := hni
              have hnl : ni ≤ 4194304 := by rw [HNI.out]; exact HNL.out i hlt
              have HG : Hid ((∀ k, i < k → U k = V k) ∧ Value.slice so ni sc = U i ∧ GP L pb C 30 9 5 lv wv nb V W N zB yB 600 (i) (0) (.slice fo i fc) (U) post wr ∧ Below L w wr) := ⟨fun k hk => hUV k (by omega), by rw [hUV i (Nat.le_refl _), hsl, hni], hG, hb⟩
              rw [hsl, ← hni] at kd
              subst hbo
              clear hUV hG hb e1 hsl hni
              go_wp2_with fail
              clear k7 kd
              go_loopw [8, 9] (fun s8 s9 wr => ∃ (j : Nat) (U : Nat → Value), j ≤ 600 ∧ (∃ ao c', s8 = .slice ao (ni + j) c') ∧ s9 = .int .i64 (j : Int) ∧ (∀ k, i < k → U k = V k) ∧ s8 = U i ∧ GP L pb C 30 9 5 lv wv nb V W N zB yB 600 (i) (j) (.slice fo i fc) (U) post wr ∧ Below L w wr) (fun _ s9 _ => 600 - (intOf s9).toNat)
              case atStart => exact ⟨0, U, Nat.zero_le _, ⟨_, _, rfl⟩, rfl, HG.out.1, HG.out.2.1, HG.out.2.2.1, HG.out.2.2.2⟩
              case round =>
                clear HG
                obtain ⟨j, U', hj, ⟨ao, c1, rfl⟩, rfl, hUV, hU, hG, hb⟩ := hrel
                by_cases hlt2 : j < 600
                · obtain ⟨u', w', hr, ⟨ao2, c2, hu'⟩, hG2, hb2⟩ := hG.more (t := 30) hlt Try.underlying30 info5' rfl (cellB _) (by decide) (HNL.out i hlt) (by omega)
                  rw [← hU] at hr
                  have HN : Hid ((∀ k, i < k → (fun k => if k = i then u' else U' k) k = V k) ∧ Value.slice ao2 (ni + (j + 1)) c2 = (fun k => if k = i then u' else U' k) i ∧ GP L pb C 30 9 5 lv wv nb V W N zB yB 600 (i) (j + 1) (.slice fo i fc) (fun k => if k = i then u' else U' k) post w' ∧ Below L w w') := ⟨fun k hk => by simp only [if_neg (show ¬ k = i by omega)]; exact hUV k hk, by simp [hu', HNI.out], hG2, hb.trans hb2⟩
                  have hrr : ∀ ty, (Builtin.append_ #[30, 30] ty #[.slice ao (ni + j) c1, .slice (some ⟨wr.heap.size, 0, none⟩) 1 1]).run Try.prog (wr.alloc (.cells #[Value.int .u8 ((i : Int) + 130)] 5)) = .ok (.slice ao2 (ni + (j + 1)) c2) w' := fun ty => by rw [HNI.out, ← hu']; rw [HNI.out] at hr; exact hr ty
                  have HR : Hid (∀ ty, (Builtin.append_ #[30, 30] ty #[.slice ao (ni + j) c1, .slice (some ⟨wr.heap.size, 0, none⟩) 1 1]).run Try.prog (wr.alloc (.cells #[Value.int .u8 ((i : Int) + 130)] 5)) = .ok (.slice ao2 (ni + (j + 1)) c2) w') := hrr
                  clear hUV hU hG hb hr hu' hG2 hb2 hrr
                  go_wp2_with (at_builtin; refine wpList_runs rfl _ _ 30 rfl rfl rfl HR.out ?_)
                  clear HR
                  go_roundw
                  case rel => exact ⟨j + 1, _, by omega, ⟨_, _, rfl⟩, by go_num, HN.out.1, HN.out.2.1, HN.out.2.2.1, HN.out.2.2.2⟩
                  case measure => simp [intOf]; omega
                · have hjn : ¬ ((j : Int) < (600 : Int)) := by omega
                  have hje : j = 600 := by omega
                  subst hje
                  obtain ⟨fv', w', hr, ⟨ao2, c2, hu'⟩, hG2, hb2⟩ := hG.lay (t := 29) hlt Try.underlying29 info30 rfl (by decide) hnb
                  rw [← hU] at hr
                  subst hu'
                  have HN : Hid ((∀ k, i + 1 ≤ k → U' k = V k) ∧ GP L pb C 30 9 5 lv wv nb V W N zB yB 600 (i + 1) (0) (.slice ao2 (i + 1) c2) (U') post w' ∧ Below L w w') := ⟨fun k hk => hUV k (by omega), hG2, hb.trans hb2⟩
                  have HR : Hid (∀ ty, (Builtin.append_ #[29, 29] ty #[.slice fo i fc, .slice (some ⟨wr.heap.size, 0, none⟩) 1 1]).run Try.prog (wr.alloc (.cells #[.slice ao (ni + 600) c1] 30)) = .ok (.slice ao2 (i + 1) c2) w') := hr
                  clear hUV hU hG hb hr hG2 hb2
                  go_wp2_with (at_builtin; refine wpList_runs rfl _ _ 29 rfl rfl rfl HR.out ?_)
                  clear HR
                  go_roundw
                  case rel => exact ⟨i + 1, U', by omega, ⟨_, _, rfl⟩, by go_num, HN.out.1, HN.out.2.1, HN.out.2.2⟩
                  case measure => simp [intOf]; omega
            · have hin : ¬ ((i : Int) < (nb : Int)) := by omega
              have HIE : Hid (i = nb) := by rw [Hid]; omega
              have HG : Hid (GP L pb C 30 9 5 lv wv nb V W N zB yB 600 (i) (0) (.slice fo i fc) (U) post wr ∧ Below L w wr) := ⟨hG, hb⟩
              clear hG hb hUV hi
              go_wp2_with fail
              clear k7
              go_loopw [10] (fun s10 wr => ∃ m : Nat, m ≤ i ∧ s10 = .int .i64 (m : Int) ∧ GP L pb C 30 9 5 lv wv nb V W N zB yB 600 (i) (0) (.slice fo i fc) (U) post wr ∧ Below L w wr) (fun s10 _ => i - (intOf s10).toNat)
              case atStart => exact ⟨0, Nat.zero_le _, rfl, HG.out.1, HG.out.2⟩
              case round =>
                clear HG
                obtain ⟨m, hm, rfl, hG, hb⟩ := hrel
                have k7 := HK.out _ _ _ hG.h
                have HG : Hid (GP L pb C 30 9 5 lv wv nb V W N zB yB 600 (i) (0) (.slice fo i fc) (U) post wr ∧ Below L w wr) := ⟨hG, hb⟩
                by_cases hlt : m < i
                · have hltn : m < nb := by rw [← HIE.out]; exact hlt
                  obtain ⟨g1, o1, b1, e1, kd⟩ := hG.h.lrow hltn
                  have hbo : lo = some ⟨g1, o1, none⟩ := by have := HLV.out; rw [e1] at this; cases this; rfl
                  obtain ⟨so, sc, hsl⟩ := tail_val (hG.rows hltn).1
                  obtain ⟨ni, hni⟩ : ∃ ni, ni = N m := ⟨_, rfl⟩
                  have HNI : Hid (ni = N m) := hni
                  have hnl : ni ≤ 4194304 := by rw [HNI.out]; exact HNL.out m hltn
                  rw [hsl, ← hni] at kd
                  have HSL : Hid (V m = .slice so ni sc) := by rw [Hid, hni]; exact hsl
                  have HKD : Hid (∀ wr, GP L pb C 30 9 5 lv wv nb V W N zB yB 600 (i) (0) (.slice fo i fc) (U) post wr → wr.cell? ⟨g1, o1 + m, none⟩ = some (.slice so ni sc)) := fun wr hg => by
                    obtain ⟨g2, o2, b2, e2, kd2⟩ := hg.h.lrow hltn
                    rw [e1] at e2
                    cases e2
                    rw [kd2]
                    exact congrArg some HSL.out
                  subst hbo
                  clear hG hb e1 hsl hni
                  go_wp2_with fail
                  clear k7 kd
                  go_loopw [12] (fun s12 wr => ∃ j : Nat, j ≤ ni + 600 ∧ s12 = .int .i64 (j : Int) ∧ GP L pb C 30 9 5 lv wv nb V W N zB yB 600 (i) (0) (.slice fo i fc) (U) post wr ∧ Below L w wr) (fun s12 _ => (ni + 600) - (intOf s12).toNat)
                  case atStart => exact ⟨0, Nat.zero_le _, rfl, HG.out.1, HG.out.2⟩
                  case round =>
                    clear HG
                    obtain ⟨j, hj, rfl, hG, hb⟩ := hrel
                    have k7 := HK.out _ _ _ hG.h
                    have kd := HKD.out _ hG
                    have hF : Tail wr L 30 (.slice fo i fc) i ((List.range i).map U) := hG.h.all (tailE L 30 (.slice fo i fc) i ((List.range i).map U)) (by simp)
                    obtain ⟨gf, of, bf, ef, kf⟩ := tail_at hF (range_at U hlt)
                    have hR := hG.rows hltn
                    rw [gM_end hlt, ← HNI.out] at hR
                    rw [HSL.out] at hR
                    obtain ⟨uo, uc, hU⟩ := tail_val hR.2
                    have hRU := hR.2
                    rw [hU] at kf hRU
                    have HG : Hid (GP L pb C 30 9 5 lv wv nb V W N zB yB 600 (i) (0) (.slice fo i fc) (U) post wr ∧ Below L w wr) := ⟨hG, hb⟩
                    cases ef
                    by_cases hlt2 : j < ni + 600
                    · by_cases hlt3 : j < ni
                      · obtain ⟨g3, o3, c3, e3, q1⟩ := tail_at hR.1 (i := j) (u := zB m) (by rw [List.getElem?_replicate, if_pos hlt3])
                        obtain ⟨g4, o4, c4, e4, q2⟩ := tail_at hRU (i := j) (u := zB m) (by rw [List.getElem?_append_left (by rw [List.length_replicate]; exact hlt3), List.getElem?_replicate, if_pos hlt3])
                        cases e3
                        cases e4
                        have q1' : wr.cell? ⟨g3, o3 + j, none⟩ = some (Value.int .u8 ((m : Int) + 1)) := q1
                        have q2' : wr.cell? ⟨g4, o4 + j, none⟩ = some (Value.int .u8 ((m : Int) + 1)) := q2
                        clear hG hb hF hR hU hRU q1 q2
                        go_wp2_with fail
                        go_roundw
                        case rel => exact ⟨j + 1, by omega, by go_num, HG.out.1, HG.out.2⟩
                        case measure => simp [intOf]; omega
                      · have hjn : ¬ ((j : Int) < (ni : Int)) := by omega
                        have hjn2 : (ni : Int) ≤ (j : Int) := by omega
                        obtain ⟨g4, o4, c4, e4, q2⟩ := tail_at hRU (i := j) (u := yB m) (by rw [List.getElem?_append_right (by rw [List.length_replicate]; omega), List.length_replicate, List.getElem?_replicate, if_pos (by omega)])
                        cases e4
                        have q2' : wr.cell? ⟨g4, o4 + j, none⟩ = some (Value.int .u8 ((m : Int) + 130)) := q2
                        clear hG hb hF hR hU hRU q2
                        go_wp2_with fail
                        go_roundw
                        case rel => exact ⟨j + 1, by omega, by go_num, HG.out.1, HG.out.2⟩
                        case measure => simp [intOf]; omega
                    · have hjn : ¬ ((j : Int) < (ni : Int) + 600) := by omega
                      clear hG hb hF hR hU hRU
                      go_wp2_with fail
                      go_roundw
                      case rel => exact ⟨m + 1, by omega, by go_num, HG.out.1, HG.out.2⟩
                      case measure => simp [intOf]; omega
                · have hmn : ¬ ((m : Int) < (i : Int)) := by omega
                  clear hG hb hm
                  as_aux_lemma =>
                    obtain ⟨p3, hp3, hw3, hr3⟩ : ∃ p3, HP L pb C 44 44 nv ov nn V2 W2 [] (rE L 3 V2 N2 X2) p3 wr ∧ (∀ k, k < nn → rE L 3 W2 N2 X2 k ∈ p3) ∧ R.Sublist p3 := by
                      have h9 := HG.out.1.h
                      rw [HPO.out] at h9
                      exact ⟨_, h9.turn, fun k hk => List.mem_append_right _ (List.mem_append_left _ (Fl_mem hk)), ((List.sublist_append_right oth R).trans (List.sublist_append_right _ _)).trans (List.sublist_append_right _ _)⟩
                    have HW3 : Hid (∀ k, k < nn → rE L 3 W2 N2 X2 k ∈ p3) := hw3
                    have HR3 : Hid (R.Sublist p3) := hr3
                    obtain ⟨lo2, lc2, hlv2⟩ := tail_val hp3.tl
                    have HLV2 : Hid (nv = .slice lo2 nn lc2) := hlv2
                    have HK2 : Hid (∀ (pre : List (Ent L)) (F : Nat → Ent L) (wr : World), HP L pb C 44 44 nv ov nn V2 W2 pre F p3 wr → wr.cell? ⟨pb, 9, none⟩ = some (.slice lo2 nn lc2)) := fun pre F wr h => (h.box.cell 9).trans (HC9.out.trans (by rw [hlv2]))
                    have HI : Hid (HP L pb C 44 44 nv ov nn V2 W2 [] (rE L 3 V2 N2 X2) p3 wr ∧ Below L w wr) := ⟨hp3, HG.out.2⟩
                    clear hp3 hw3 hr3 hlv2 HG HIE HK HLV HNL HXL HV HC8 HS HPO
                    go_wp2_with fail
                    try clear k7
                    clear hmn
                    go_loopw [13] (fun s4 wr => ∃ i : Nat, i ≤ nn ∧ s4 = .int .i64 (i : Int) ∧ HP L pb C 44 44 nv ov nn V2 W2 [] (rE L 3 V2 N2 X2) p3 wr ∧ Below L w wr) (fun s4 _ => nn - (intOf s4).toNat)
                    case atStart => exact ⟨0, Nat.zero_le _, rfl, HI.out.1, HI.out.2⟩
                    case round =>
                      clear HI
                      obtain ⟨i, hi, rfl, hP, hb⟩ := hrel
                      have k7 := HK2.out _ _ _ hP
                      by_cases hlt : i < nn
                      · have HPB : Hid (_ ∧ _) := ⟨hP, hb⟩
                        clear hP hb
                        obtain ⟨ni, hni⟩ : ∃ ni, ni = N2 i := ⟨_, rfl⟩
                        have HNI : Hid (ni = N2 i) := hni
                        clear hni
                        have hnl : ni ≤ 4194304 := by rw [HNI.out]; exact HN2L.out i hlt
                        go_wp2_with fail
                        clear k7
                        go_loopw [14] (fun s5 wr => ∃ j : Nat, j ≤ ni ∧ s5 = .int .i64 (j : Int) ∧ HP L pb C 44 44 nv ov nn V2 W2 [] (rE L 3 V2 N2 X2) p3 wr ∧ Below L w wr) (fun s5 _ => ni - (intOf s5).toNat)
                        case atStart => exact ⟨0, Nat.zero_le _, rfl, HPB.out.1, HPB.out.2⟩
                        case round =>
                          clear HPB
                          obtain ⟨j, hj, rfl, hP, hb⟩ := hrel
                          have k7 := HK2.out _ _ _ hP
                          obtain ⟨g1, o1, b1, e1, kd⟩ := hP.lrow hlt
                          have hbo : lo2 = some ⟨g1, o1, none⟩ := by have := HLV2.out; rw [e1] at this; cases this; rfl
                          obtain ⟨g2, o2, b2, e2, ke⟩ := hP.wrow hlt
                          have k8 : wr.cell? ⟨pb, 10, none⟩ = some (.slice (some ⟨g2, o2, none⟩) nn b2) := (hP.box.cell 10).trans (HC10.out.trans (by rw [e2]))
                          have hT : Tail wr L 3 (V2 i) (N2 i) (X2 i) := hP.part hlt
                          have hT2 : Tail wr L 3 (W2 i) (N2 i) (X2 i) := hP.rest (HW3.out i hlt)
                          obtain ⟨so, sc, hsl⟩ := tail_val hT
                          obtain ⟨uo, uc, hul⟩ := tail_val hT2
                          by_cases hlt2 : j < ni
                          · obtain ⟨z, hz⟩ : ∃ z, (X2 i)[j]? = some (.int .i64 z) := by
                              rw [HV2.out.1, List.getElem?_map, List.getElem?_eq_getElem (by rw [← HV2.out.2, ← HNI.out]; exact hlt2)]
                              exact ⟨_, rfl⟩
                            obtain ⟨g, off, c5, e5, q1⟩ := tail_at hT hz
                            obtain ⟨g', off', c6, e6, q2⟩ := tail_at hT2 hz
                            rw [hsl] at e5
                            rw [hul] at e6
                            cases e5
                            cases e6
                            rw [hsl, ← HNI.out] at kd
                            rw [hul, ← HNI.out] at ke
                            have HN : Hid (HP L pb C 44 44 nv ov nn V2 W2 [] (rE L 3 V2 N2 X2) p3 wr ∧ Below L w wr) := ⟨hP, hb⟩
                            subst hbo
                            clear hP hb e1 e2 hT hT2 hsl hul hz
                            go_wp2_with fail
                            go_quiet (fail)
                            go_wp2_with fail
                            go_roundw
                            case rel => exact ⟨j + 1, by omega, by go_num, HN.out.1.drew _, below_drN HN.out.2 _⟩
                            case measure => simp [intOf]; omega
                          · have hjn : ¬ ((j : Int) < (ni : Int)) := by omega
                            rw [hsl, ← HNI.out] at kd
                            have HN : Hid (HP L pb C 44 44 nv ov nn V2 W2 [] (rE L 3 V2 N2 X2) p3 wr ∧ Below L w wr) := ⟨hP, hb⟩
                            subst hbo
                            clear hP hb e1 e2 hT hT2 hsl hul ke k8
                            go_wp2_with fail
                            go_roundw
                            case rel => exact ⟨i + 1, by omega, by go_num, HN.out.1, HN.out.2⟩
                            case measure => simp [intOf]; omega
                      · have hin : ¬ ((i : Int) < (nn : Int)) := by omega
                        have HI : Hid (HP L pb C 44 44 nv ov nn V2 W2 [] (rE L 3 V2 N2 (mX N2 X2 zI 0 0)) p3 wr ∧ Below L w wr) := ⟨by rw [mX_zero]; exact hP, hb⟩
                        clear hP hb
                        go_wp2_with fail
                        clear k7
                        go_loopw [15] (fun s4 wr => ∃ i : Nat, i ≤ nn ∧ s4 = .int .i64 (i : Int) ∧ HP L pb C 44 44 nv ov nn V2 W2 [] (rE L 3 V2 N2 (mX N2 X2 zI i 0)) p3 wr ∧ Below L w wr) (fun s4 _ => nn - (intOf s4).toNat)
                        case atStart => exact ⟨0, Nat.zero_le _, rfl, HI.out.1, HI.out.2⟩
                        case round =>
                          clear HI
                          obtain ⟨i, hi, rfl, hP, hb⟩ := hrel
                          have k7 := HK2.out _ _ _ hP
                          have HPB : Hid (_ ∧ _) := ⟨hP, hb⟩
                          clear hP hb
                          by_cases hlt : i < nn
                          · obtain ⟨ni, hni⟩ : ∃ ni, ni = N2 i := ⟨_, rfl⟩
                            have HNI : Hid (ni = N2 i) := hni
                            clear hni
                            have hnl : ni ≤ 4194304 := by rw [HNI.out]; exact HN2L.out i hlt
                            go_wp2_with fail
                            clear k7
                            go_loopw [16] (fun s5 wr => ∃ j : Nat, j ≤ ni ∧ s5 = .int .i64 (j : Int) ∧ HP L pb C 44 44 nv ov nn V2 W2 [] (rE L 3 V2 N2 (mX N2 X2 zI i j)) p3 wr ∧ Below L w wr) (fun s5 _ => ni - (intOf s5).toNat)
                            case atStart => exact ⟨0, Nat.zero_le _, rfl, HPB.out.1, HPB.out.2⟩
                            case round =>
                              clear HPB
                              obtain ⟨j, hj, rfl, hP, hb⟩ := hrel
                              have k7 := HK2.out _ _ _ hP
                              obtain ⟨g1, o1, b1, e1, kd⟩ := hP.lrow hlt
                              have hbo : lo2 = some ⟨g1, o1, none⟩ := by have := HLV2.out; rw [e1] at this; cases this; rfl
                              have hT : Tail wr L 3 (V2 i) (N2 i) (mX N2 X2 zI i j i) := hP.part hlt
                              obtain ⟨so, sc, hsl⟩ := tail_val hT
                              by_cases hlt2 : j < ni
                              · obtain ⟨g, off, hso⟩ : ∃ g off, so = some ⟨g, off, none⟩ := by
                                  obtain ⟨g, off, c', e, _⟩ := tail_at hT (List.getElem?_eq_getElem (i := j) (by rw [hT.1, ← HNI.out]; exact hlt2))
                                  rw [hsl] at e; cases e; exact ⟨_, _, rfl⟩
                                subst hso
                                obtain ⟨hfr, ⟨x, hx⟩, hP2, hb2⟩ := hP.mark hlt (HX2L.out i hlt) (by rw [← HNI.out]; exact hlt2) hsl
                                rw [hsl, ← HNI.out] at kd
                                have HN : Hid (_ ∧ _) := ⟨hP2, hb.trans hb2⟩
                                subst hbo
                                clear hP hb e1 hT hsl hP2 hb2
                                go_wp2_with fail
                                go_roundw
                                case rel => exact ⟨j + 1, by omega, by go_num, HN.out.1, HN.out.2⟩
                                case measure => simp [intOf]; omega
                              · have hjn : ¬ ((j : Int) < (ni : Int)) := by omega
                                have hje : j = ni := by omega
                                have HN : Hid (HP L pb C 44 44 nv ov nn V2 W2 [] (rE L 3 V2 N2 (mX N2 X2 zI (i + 1) 0)) p3 wr ∧ Below L w wr) := by
                                  refine ⟨?_, hb⟩
                                  have := hP
                                  rw [hje, HNI.out, mX_next N2 X2 zI i (HX2L.out i hlt)] at this
                                  exact this
                                rw [hsl, ← HNI.out] at kd
                                subst hbo
                                clear hP hb e1 hT hsl hje
                                go_wp2_with fail
                                go_roundw
                                case rel => exact ⟨i + 1, by omega, by go_num, HN.out.1, HN.out.2⟩
                                case measure => simp [intOf]; omega
                          · have hin : ¬ ((i : Int) < (nn : Int)) := by omega
                            have hie : i = nn := by omega
                            have h9 := HPB.out
                            rw [hie] at h9
                            have HG : Hid (GP L pb C 44 44 3 nv ov nn V2 W2 N2 zI yI 100 (0) (0) (.slice none 0 0) (V2) p3 wr ∧ Below L w wr) := ⟨GP.start h9.1 _ _, h9.2⟩
                            clear HPB hi hie h9
                            go_wp2_with fail
                            clear k7
                            go_loopw [17, 18] (fun s6 s7 wr => ∃ (i : Nat) (U : Nat → Value), i ≤ nn ∧ (∃ fo fc, s6 = .slice fo i fc) ∧ s7 = .int .i64 (i : Int) ∧ (∀ k, i ≤ k → U k = V2 k) ∧ GP L pb C 44 44 3 nv ov nn V2 W2 N2 zI yI 100 (i) (0) (s6) (U) p3 wr ∧ Below L w wr) (fun _ s7 _ => nn - (intOf s7).toNat)
                            case atStart => exact ⟨0, V2, Nat.zero_le _, ⟨_, _, rfl⟩, rfl, fun _ _ => rfl, HG.out.1, HG.out.2⟩
                            case round =>
                              clear HG
                              obtain ⟨i, U, hi, ⟨fo, fc, rfl⟩, rfl, hUV, hG, hb⟩ := hrel
                              have k7 := HK2.out _ _ _ hG.h
                              by_cases hlt : i < nn
                              · obtain ⟨g1, o1, b1, e1, kd⟩ := hG.h.lrow hlt
                                have hbo : lo2 = some ⟨g1, o1, none⟩ := by have := HLV2.out; rw [e1] at this; cases this; rfl
                                obtain ⟨so, sc, hsl⟩ := tail_val (hG.rows hlt).1
                                obtain ⟨ni, hni⟩ : ∃ ni, ni = N2 i := ⟨_, rfl⟩
                                have HNI : Hid (ni = N2 i) := hni
                                have hnl : ni ≤ 4194304 := by rw [HNI.out]; exact HN2L.out i hlt
                                have HG : Hid ((∀ k, i < k → U k = V2 k) ∧ Value.slice so ni sc = U i ∧ GP L pb C 44 44 3 nv ov nn V2 W2 N2 zI yI 100 (i) (0) (.slice fo i fc) (U) p3 wr ∧ Below L w wr) := ⟨fun k hk => hUV k (by omega), by rw [hUV i (Nat.le_refl _), hsl, hni], hG, hb⟩
                                rw [hsl, ← hni] at kd
                                subst hbo
                                clear hUV hG hb e1 hsl hni
                                go_wp2_with fail
                                clear k7 kd
                                go_loopw [19, 20] (fun s8 s9 wr => ∃ (j : Nat) (U : Nat → Value), j ≤ 100 ∧ (∃ ao c', s8 = .slice ao (ni + j) c') ∧ s9 = .int .i64 (j : Int) ∧ (∀ k, i < k → U k = V2 k) ∧ s8 = U i ∧ GP L pb C 44 44 3 nv ov nn V2 W2 N2 zI yI 100 (i) (j) (.slice fo i fc) (U) p3 wr ∧ Below L w wr) (fun _ s9 _ => 100 - (intOf s9).toNat)
                                case atStart => exact ⟨0, U, Nat.zero_le _, ⟨_, _, rfl⟩, rfl, HG.out.1, HG.out.2.1, HG.out.2.2.1, HG.out.2.2.2⟩
                                case round =>
                                  clear HG
                                  obtain ⟨j, U', hj, ⟨ao, c1, rfl⟩, rfl, hUV, hU, hG, hb⟩ := hrel
                                  by_cases hlt2 : j < 100
                                  · obtain ⟨u', w', hr, ⟨ao2, c2, hu'⟩, hG2, hb2⟩ := hG.more (t := 44) hlt Try.underlying44 info3 rfl (cellI _) (by decide) (HN2L.out i hlt) (by omega)
                                    rw [← hU] at hr
                                    have HN : Hid ((∀ k, i < k → (fun k => if k = i then u' else U' k) k = V2 k) ∧ Value.slice ao2 (ni + (j + 1)) c2 = (fun k => if k = i then u' else U' k) i ∧ GP L pb C 44 44 3 nv ov nn V2 W2 N2 zI yI 100 (i) (j + 1) (.slice fo i fc) (fun k => if k = i then u' else U' k) p3 w' ∧ Below L w w') := ⟨fun k hk => by simp only [if_neg (show ¬ k = i by omega)]; exact hUV k hk, by simp [hu', HNI.out], hG2, hb.trans hb2⟩
                                    have hrr : ∀ ty, (Builtin.append_ #[44, 44] ty #[.slice ao (ni + j) c1, .slice (some ⟨wr.heap.size, 0, none⟩) 1 1]).run Try.prog (wr.alloc (.cells #[Value.int .i64 (-1000000 - (i : Int))] 3)) = .ok (.slice ao2 (ni + (j + 1)) c2) w' := fun ty => by rw [HNI.out, ← hu']; rw [HNI.out] at hr; exact hr ty
                                    have HR : Hid (∀ ty, (Builtin.append_ #[44, 44] ty #[.slice ao (ni + j) c1, .slice (some ⟨wr.heap.size, 0, none⟩) 1 1]).run Try.prog (wr.alloc (.cells #[Value.int .i64 (-1000000 - (i : Int))] 3)) = .ok (.slice ao2 (ni + (j + 1)) c2) w') := hrr
                                    clear hUV hU hG hb hr hu' hG2 hb2 hrr
                                    go_wp2_with (at_builtin; refine wpList_runs rfl _ _ 44 rfl rfl rfl HR.out ?_)
                                    clear HR
                                    go_roundw
                                    case rel => exact ⟨j + 1, _, by omega, ⟨_, _, rfl⟩, by go_num, HN.out.1, HN.out.2.1, HN.out.2.2.1, HN.out.2.2.2⟩
                                    case measure => simp [intOf]; omega
                                  · have hjn : ¬ ((j : Int) < (100 : Int)) := by omega
                                    have hje : j = 100 := by omega
                                    subst hje
                                    obtain ⟨fv', w', hr, ⟨ao2, c2, hu'⟩, hG2, hb2⟩ := hG.lay (t := 62) hlt Try.underlying62 info44 rfl (by decide) hnn
                                    rw [← hU] at hr
                                    subst hu'
                                    have HN : Hid ((∀ k, i + 1 ≤ k → U' k = V2 k) ∧ GP L pb C 44 44 3 nv ov nn V2 W2 N2 zI yI 100 (i + 1) (0) (.slice ao2 (i + 1) c2) (U') p3 w' ∧ Below L w w') := ⟨fun k hk => hUV k (by omega), hG2, hb.trans hb2⟩
                                    have HR : Hid (∀ ty, (Builtin.append_ #[62, 62] ty #[.slice fo i fc, .slice (some ⟨wr.heap.size, 0, none⟩) 1 1]).run Try.prog (wr.alloc (.cells #[.slice ao (ni + 100) c1] 44)) = .ok (.slice ao2 (i + 1) c2) w') := hr
                                    clear hUV hU hG hb hr hG2 hb2
                                    go_wp2_with (at_builtin; refine wpList_runs rfl _ _ 62 rfl rfl rfl HR.out ?_)
                                    clear HR
                                    go_roundw
                                    case rel => exact ⟨i + 1, U', by omega, ⟨_, _, rfl⟩, by go_num, HN.out.1, HN.out.2.1, HN.out.2.2⟩
                                    case measure => simp [intOf]; omega
                              · have hin : ¬ ((i : Int) < (nn : Int)) := by omega
                                have HIE : Hid (i = nn) := by rw [Hid]; omega
                                have HG : Hid (GP L pb C 44 44 3 nv ov nn V2 W2 N2 zI yI 100 (i) (0) (.slice fo i fc) (U) p3 wr ∧ Below L w wr) := ⟨hG, hb⟩
                                clear hG hb hUV hi
                                go_wp2_with fail
                                clear k7
                                go_loopw [21] (fun s10 wr => ∃ m : Nat, m ≤ i ∧ s10 = .int .i64 (m : Int) ∧ GP L pb C 44 44 3 nv ov nn V2 W2 N2 zI yI 100 (i) (0) (.slice fo i fc) (U) p3 wr ∧ Below L w wr) (fun s10 _ => i - (intOf s10).toNat)
                                case atStart => exact ⟨0, Nat.zero_le _, rfl, HG.out.1, HG.out.2⟩
                                case round =>
                                  clear HG
                                  obtain ⟨m, hm, rfl, hG, hb⟩ := hrel
                                  have k7 := HK2.out _ _ _ hG.h
                                  have HG : Hid (GP L pb C 44 44 3 nv ov nn V2 W2 N2 zI yI 100 (i) (0) (.slice fo i fc) (U) p3 wr ∧ Below L w wr) := ⟨hG, hb⟩
                                  by_cases hlt : m < i
                                  · have hltn : m < nn := by rw [← HIE.out]; exact hlt
                                    obtain ⟨g1, o1, b1, e1, kd⟩ := hG.h.lrow hltn
                                    have hbo : lo2 = some ⟨g1, o1, none⟩ := by have := HLV2.out; rw [e1] at this; cases this; rfl
                                    obtain ⟨so, sc, hsl⟩ := tail_val (hG.rows hltn).1
                                    obtain ⟨ni, hni⟩ : ∃ ni, ni = N2 m := ⟨_, rfl⟩
                                    have HNI : Hid (ni = N2 m) := hni
                                    have hnl : ni ≤ 4194304 := by rw [HNI.out]; exact HN2L.out m hltn
                                    rw [hsl, ← hni] at kd
                                    have HSL : Hid (V2 m = .slice so ni sc) := by rw [Hid, hni]; exact hsl
                                    have HKD : Hid (∀ wr, GP L pb C 44 44 3 nv ov nn V2 W2 N2 zI yI 100 (i) (0) (.slice fo i fc) (U) p3 wr → wr.cell? ⟨g1, o1 + m, none⟩ = some (.slice so ni sc)) := fun wr hg => by
                                      obtain ⟨g2, o2, b2, e2, kd2⟩ := hg.h.lrow hltn
                                      rw [e1] at e2
                                      cases e2
                                      rw [kd2]
                                      exact congrArg some HSL.out
                                    subst hbo
                                    clear hG hb e1 hsl hni
                                    go_wp2_with fail
                                    clear k7 kd
                                    go_loopw [23] (fun s12 wr => ∃ j : Nat, j ≤ ni + 100 ∧ s12 = .int .i64 (j : Int) ∧ GP L pb C 44 44 3 nv ov nn V2 W2 N2 zI yI 100 (i) (0) (.slice fo i fc) (U) p3 wr ∧ Below L w wr) (fun s12 _ => (ni + 100) - (intOf s12).toNat)
                                    case atStart => exact ⟨0, Nat.zero_le _, rfl, HG.out.1, HG.out.2⟩
                                    case round =>
                                      clear HG
                                      obtain ⟨j, hj, rfl, hG, hb⟩ := hrel
                                      have k7 := HK2.out _ _ _ hG.h
                                      have kd := HKD.out _ hG
                                      have hF : Tail wr L 44 (.slice fo i fc) i ((List.range i).map U) := hG.h.all (tailE L 44 (.slice fo i fc) i ((List.range i).map U)) (by simp)
                                      obtain ⟨gf, of, bf, ef, kf⟩ := tail_at hF (range_at U hlt)
                                      have hR := hG.rows hltn
                                      rw [gM_end hlt, ← HNI.out] at hR
                                      rw [HSL.out] at hR
                                      obtain ⟨uo, uc, hU⟩ := tail_val hR.2
                                      have hRU := hR.2
                                      rw [hU] at kf hRU
                                      have HG : Hid (GP L pb C 44 44 3 nv ov nn V2 W2 N2 zI yI 100 (i) (0) (.slice fo i fc) (U) p3 wr ∧ Below L w wr) := ⟨hG, hb⟩
                                      cases ef
                                      by_cases hlt2 : j < ni + 100
                                      · by_cases hlt3 : j < ni
                                        · obtain ⟨g3, o3, c3, e3, q1⟩ := tail_at hR.1 (i := j) (u := zI m) (by rw [List.getElem?_replicate, if_pos hlt3])
                                          obtain ⟨g4, o4, c4, e4, q2⟩ := tail_at hRU (i := j) (u := zI m) (by rw [List.getElem?_append_left (by rw [List.length_replicate]; exact hlt3), List.getElem?_replicate, if_pos hlt3])
                                          cases e3
                                          cases e4
                                          have q1' : wr.cell? ⟨g3, o3 + j, none⟩ = some (Value.int .i64 (-1 - (m : Int))) := q1
                                          have q2' : wr.cell? ⟨g4, o4 + j, none⟩ = some (Value.int .i64 (-1 - (m : Int))) := q2
                                          clear hG hb hF hR hU hRU q1 q2
                                          go_wp2_with fail
                                          go_roundw
                                          case rel => exact ⟨j + 1, by omega, by go_num, HG.out.1, HG.out.2⟩
                                          case measure => simp [intOf]; omega
                                        · have hjn : ¬ ((j : Int) < (ni : Int)) := by omega
                                          have hjn2 : (ni : Int) ≤ (j : Int) := by omega
                                          obtain ⟨g4, o4, c4, e4, q2⟩ := tail_at hRU (i := j) (u := yI m) (by rw [List.getElem?_append_right (by rw [List.length_replicate]; omega), List.length_replicate, List.getElem?_replicate, if_pos (by omega)])
                                          cases e4
                                          have q2' : wr.cell? ⟨g4, o4 + j, none⟩ = some (Value.int .i64 (-1000000 - (m : Int))) := q2
                                          clear hG hb hF hR hU hRU q2
                                          go_wp2_with fail
                                          go_roundw
                                          case rel => exact ⟨j + 1, by omega, by go_num, HG.out.1, HG.out.2⟩
                                          case measure => simp [intOf]; omega
                                      · have hjn : ¬ ((j : Int) < (ni : Int) + 100) := by omega
                                        clear hG hb hF hR hU hRU
                                        go_wp2_with fail
                                        go_roundw
                                        case rel => exact ⟨m + 1, by omega, by go_num, HG.out.1, HG.out.2⟩
                                        case measure => simp [intOf]; omega
                                  · have hmn : ¬ ((m : Int) < (i : Int)) := by omega
                                    clear hG hb hm
                                    go_wp2_with fail
                                    go_ret
                                    exact ⟨rfl, HG.out.2, Held.sub (Held.sub (Held.sub HG.out.1.h (List.sublist_append_right _ _)) (List.sublist_append_right _ _)) HR3.out⟩
end Go.Proofs.Ytlajcaofpmjdlaa
