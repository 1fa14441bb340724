import Derived.Test.YtkdndfdofhnagaaDoorApart1
import Derived.Deep.Cut
namespace Go.Proofs.YtkdndfdofhnagaaDoor
open Go.RowKit Go.PlainAid
set_option linter.unusedVariables false
set_option linter.unusedSimpArgs false
section
variable {ops : Array Oper} {Q : Exit → Act → World → Prop} {a : Act} {w : World} {rest : List Oper} {o : Oper} {f : Nat → Value} {N d : Nat}
structure WS (ops : Array Oper) (Q : Exit → Act → World → Prop) (l : List Oper) (a : Act) (w : World) : Prop where
  out : wpList Tryd.prog ops Q l a w
theorem syp (hF : Fr N a f) (hd : o.dst = some d) (hN : d < N) (hw : Region.wanted o (yielded ops a.tmps) = true) {v : Value} (hr : (execOp a.eval o).run Tryd.prog w = .ok (.value v) w)
    (h : Fr N (a.put (some d) v) (upd f d v) → WS ops Q rest (a.put (some d) v) w) : WS ops Q (o :: rest) a w :=
  ⟨st_yes hw hr (by rw [hd]; exact (h (hF.put d v hN)).out)⟩
theorem snp (hF : Fr N a f) (hd : o.dst = some d) (hN : d < N) (hw : Region.wanted o (yielded ops a.tmps) = false)
    (h : Fr N (a.put (some d) undef) (upd f d undef) → WS ops Q rest (a.put (some d) undef) w) : WS ops Q (o :: rest) a w :=
  ⟨st_no hw (by rw [hd]; exact (h (hF.put d undef hN)).out)⟩
theorem withFrS {l : List Oper} {t : Array Value} (ht : t.size = N) (h : ∀ f, Fr N { tmps := t, defers := [] } f → (∀ j, f j = t.getD j undef) → WS ops Q l { tmps := t, defers := [] } w) : wpList Tryd.prog ops Q l { tmps := t, defers := [] } w :=
  (h _ (Fr.ofLit t ht) fun _ => rfl).out
end
theorem FSt.drewN {L pb : Nat} {H : Nat → Prop} {z : ZS} {w0 w : World} {vf : Value} {fs : List Dat} (h : FSt L pb H z w0 w vf fs) (q : Nat) : FSt L pb H z w0 (w.drewN q) vf fs :=
  ⟨h.sh.keep (fun _ _ => rfl), h.box, h.chg.drewN q, h.sub, h.old, h.low, tail_same h.far (fun _ _ => rfl), h.vn, fun f hf => ownsRow_same (h.row f hf) (fun _ _ => rfl), h.loc⟩
/-- What is written full. -/
def Full (z : ZS) (n : Nat) : Prop := z.ls.length = n ∧ ∀ i, i < n → ∃ x : Dat, z.ls[i]? = some x ∧ (∀ (j : Nat) (u : Int), x.zs[j]? = some u → u = -1 - (i : Int)) ∧ x.zs.length ≤ 16
theorem full_of {z : ZS} (h : ZFull z) : Full (setLs z (inked z.ls z.ls.length)) z.ls.length := by
  refine ⟨inked_len _ _, fun i hi => ?_⟩
  obtain ⟨x, hx⟩ : ∃ x, z.ls[i]? = some x := ⟨z.ls[i]'hi, List.getElem?_eq_getElem _⟩
  refine ⟨_, inked_all hx hi, fun j u hu => ?_, ?_⟩
  · simp only [List.getElem?_map] at hu
    cases hz : x.zs[j]? with
    | none => rw [hz] at hu; cases hu
    | some y => rw [hz] at hu; simp at hu; exact hu.symm
  · have := h.short x (by unfold ZS.dats; exact List.mem_append.2 (Or.inr (List.mem_append.2 (Or.inl (List.mem_of_getElem? hx)))))
    simpa using this
def FRel (L pb : Nat) (H : Nat → Prop) (z : ZS) (n : Nat) (w0 w : World) (vf i : Value) : Prop := ∃ fs : List Dat, fs.length ≤ n ∧ i = .int .i64 (fs.length : Nat) ∧ FSt L pb H z w0 w vf fs
theorem len_c {A : Value} {n : Nat} {m : Nat} (h : m = n + 1) (hA : A = .int .i64 ((n + 1 : Nat) : Int)) : A = .int .i64 (m : Int) := by rw [h]; exact hA
set_option maxRecDepth 100000 in
set_option maxHeartbeats 12800000 in
theorem apart_any {L pb : Nat} {z : ZS} (w : World) (h : Shelf L z w) (hF : ZFull z) (hn : z.ls.length ≤ 3000) (hL : L ≤ w.heap.size) (hbox : ∃ C, Blk w pb C 61 ∧ C[9]? = some z.vf ∧ C[10]? = some z.vw) :
    Calls Tryd.prog 12 #[.pointer (some ⟨pb, 0, none⟩)] w fun e w' => e = .returned (.bool true) ∧ Chg z.has w w' := by
  obtain ⟨vfo, vfc, hvf, _, hfat⟩ := tail_form h.left
  obtain ⟨vwo, vwc, hvw, _, hwat⟩ := tail_form h.were
  have hwl : z.ws.length = z.ls.length := by have := congrArg List.length hF.same; simpa using this
  rw [hwl] at hvw hwat
  have hF0 : FSt L pb z.has z w w (.slice none 0 0) [] := ⟨h, hbox, Chg.refl _ _, fun _ e => e, fun k e => (h.typ e).2.1, hL, tail_nil _ _ _, (fun k e => by cases e), (fun f hf => by cases hf), (fun j f hf => by cases hf)⟩
  have c9 : w.cell? ⟨pb, 9, none⟩ = some (.slice vfo z.ls.length vfc) := by rw [← hvf]; exact hF0.c9
  have c10 : w.cell? ⟨pb, 10, none⟩ = some (.slice vwo z.ls.length vwc) := by rw [← hvw]; exact hF0.c10
  have hfo : 0 < z.ls.length → ∃ g off, vfo = some ⟨g, off, none⟩ := fun h0 => by obtain ⟨g, off, e, _⟩ := hfat h0; exact ⟨g, off, e⟩
  have HVF : Hid _ := hvf
  have HFO : Hid _ := hfo
  have HF0 : Hid _ := hF0
  have HF : Hid _ := hF
  have HD : Hid _ := h.dat
  have HFA : Hid _ := hfat
  have HWA : Hid _ := hwat
  have HWL : Hid _ := hwl
  clear h hF hvf hvw hfat hwat hF0 hfo hbox hwl hL
  go_enter Tryd.func12, Tryd.ntmps12
  go_wp2
  go_loopw [3] (fun i wr => ∃ k q : Nat, k ≤ z.ls.length ∧ i = .int .i64 k ∧ wr = w.drewN q) (fun i _ => z.ls.length - (intOf i).toNat)
  case atStart => exact ⟨0, 0, Nat.zero_le _, rfl, rfl⟩
  case round =>
    obtain ⟨k, q, hk, rfl, rfl⟩ := hrel
    have p9 : (w.drewN q).cell? ⟨pb, 9, none⟩ = some (.slice vfo z.ls.length vfc) := c9
    have p10 : (w.drewN q).cell? ⟨pb, 10, none⟩ = some (.slice vwo z.ls.length vwc) := c10
    by_cases hlt : k < z.ls.length
    · obtain ⟨⟨d, bs⟩, hx⟩ : ∃ x, z.ls[k]? = some x := ⟨z.ls[k]'hlt, List.getElem?_eq_getElem _⟩
      obtain ⟨⟨d2, bs2⟩, hx2⟩ : ∃ x, z.ws[k]? = some x := ⟨z.ws[k]'(by rw [HWL.out]; exact hlt), List.getElem?_eq_getElem _⟩
      have hbb : bs2 = bs := by
        have := congrArg (fun l => l[k]?) HF.out.same
        simpa [List.getElem?_map, hx, hx2] using this
      subst hbb
      obtain ⟨g, off, rfl, hc⟩ := HFA.out (by omega)
      obtain ⟨g2, off2, rfl, hc2⟩ := HWA.out (by omega)
      have e1 := hc k d (by rw [List.getElem?_map, hx]; rfl)
      have e2 := hc2 k d2 (by rw [List.getElem?_map, hx2]; rfl)
      have hm1 : (⟨d, bs2⟩ : Dat) ∈ z.dats := by unfold ZS.dats; exact List.mem_append.2 (Or.inr (List.mem_append.2 (Or.inl (List.mem_of_getElem? hx))))
      have hm2 : (⟨d2, bs2⟩ : Dat) ∈ z.dats := by unfold ZS.dats; exact List.mem_append.2 (Or.inr (List.mem_append.2 (Or.inr (List.mem_append.2 (Or.inl (List.mem_of_getElem? hx2))))))
      have ho1 := HD.out _ hm1
      have ho2 := HD.out _ hm2
      have hbl := HF.out.short _ hm1
      simp only at ho1 ho2 hbl
      have hsi : ∀ m, Calls Tryd.prog 32 #[d, d2] ((w.drewN q).drewN m) fun r w' => r = .returned (.bool true) ∧ ∃ q', w' = ((w.drewN q).drewN m).drewN q' := fun m => sameInts_any _ (ownsRow_same ho1 (fun _ _ => rfl)) (ownsRow_same ho2 (fun _ _ => rfl)) (by omega)
      obtain ⟨dao, dcap, rfl, _⟩ := own_slice ho1
      obtain ⟨dao2, dcap2, rfl, _⟩ := own_slice ho2
      have p1 : (w.drewN q).cell? ⟨g, off + k, none⟩ = some (.slice dao bs2.length dcap) := e1
      have p2 : (w.drewN q).cell? ⟨g2, off2 + k, none⟩ = some (.slice dao2 bs2.length dcap2) := e2
      clear hc hc2 ho1 ho2 hm1 hm2 hx hx2 hbl
      generalize hX : w.drewN q = X at *
      have HX : Hid _ := hX
      clear hX c9 c10 e1 e2 HFA HWA HD HF0
      rcases dao with _ | ⟨b1, o1, i1⟩
      · rcases dao2 with _ | ⟨b2, o2, i2⟩
        · go_wp2
          go_quiet (first | (go_at_call 32; exact Calls.quiet_of (hsi _)) | fail)
          go_wp2
          go_roundw
          case rel => exact ⟨k + 1, q + nq, by omega, by go_num, by rw [← HX.out, World.drewN_drewN]⟩
          case measure => simp [intOf]; omega
        · go_wp2
          go_quiet (first | (go_at_call 32; exact Calls.quiet_of (hsi _)) | fail)
          go_wp2
          go_roundw
          case rel => exact ⟨k + 1, q + nq, by omega, by go_num, by rw [← HX.out, World.drewN_drewN]⟩
          case measure => simp [intOf]; omega
      · rcases dao2 with _ | ⟨b2, o2, i2⟩
        · go_wp2
          go_quiet (first | (go_at_call 32; exact Calls.quiet_of (hsi _)) | fail)
          go_wp2
          go_roundw
          case rel => exact ⟨k + 1, q + nq, by omega, by go_num, by rw [← HX.out, World.drewN_drewN]⟩
          case measure => simp [intOf]; omega
        · go_wp2
          go_quiet (first | (go_at_call 32; exact Calls.quiet_of (hsi _)) | fail)
          go_wp2
          go_roundw
          case rel => exact ⟨k + 1, q + nq, by omega, by go_num, by rw [← HX.out, World.drewN_drewN]⟩
          case measure => simp [intOf]; omega
    · have HE : Hid _ := HF0.out.drewN q
      have hn0 := hn
      clear p10 c9 c10 HF0 HFA HWA HWL HD
      generalize w.drewN q = w1 at *
      go_wp2
      clear p9 hlt hk
      go_loopw [4, 5] (fun i _ wr => ∃ k : Nat, k ≤ z.ls.length ∧ i = .int .i64 k ∧ FSt L pb z.has (setLs z (inked z.ls k)) w wr (.slice none 0 0) []) (fun i _ _ => z.ls.length - (intOf i).toNat)
      case atStart => exact ⟨0, Nat.zero_le _, rfl, by rw [inked_0]; exact HE.out⟩
      case round =>
        obtain ⟨k, hk, rfl, hE⟩ := hrel
        clear HE
        have p9 : wr.cell? ⟨pb, 9, none⟩ = some (.slice vfo z.ls.length vfc) := (show wr.cell? ⟨pb, 9, none⟩ = some z.vf from hE.c9).trans (congrArg some HVF.out)
        by_cases hlt : k < z.ls.length
        · obtain ⟨⟨d, bs⟩, hx⟩ : ∃ x, z.ls[k]? = some x := ⟨z.ls[k]'hlt, List.getElem?_eq_getElem _⟩
          rw [← penned_0 hx] at hE
          obtain ⟨g, off, rfl⟩ := HFO.out (by omega)
          have e1 := hE.at_ (show (penned z k ⟨d, bs⟩ 0).vf = _ from HVF.out) (penned_at hx 0)
          have hwk : IntKind.i64.wrap (-1 - (k : Int)) = -1 - (k : Int) := by rw [IntKind.wrap_i64]; omega
          have ho := hE.sh.dat _ (hE.mem (penned_at hx 0)).1
          rw [upto_0] at ho e1
          simp only at ho e1
          obtain ⟨dao, dcap, rfl, _, _, hf⟩ := own_read ho
          have hbl : bs.length ≤ 16 := HF.out.short ⟨.slice dao bs.length dcap, bs⟩ (by unfold ZS.dats; exact List.mem_append.2 (Or.inr (List.mem_append.2 (Or.inl (List.mem_of_getElem? hx)))))
          have hf1 : 0 < bs.length → ∃ b, dao = some ⟨b, 0, none⟩ := fun h0 => by obtain ⟨b, e, _⟩ := hf h0; exact ⟨b, e⟩
          have HF1 : Hid _ := hf1
          have HX : Hid _ := hx
          have HE : Hid _ := hE
          clear ho hf hf1 hE hx
          go_wp2
          go_loopw [5] (fun j wr => ∃ m : Nat, m ≤ bs.length ∧ j = .int .i64 m ∧ FSt L pb z.has (penned z k ⟨.slice dao bs.length dcap, bs⟩ m) w wr (.slice none 0 0) []) (fun j _ => bs.length - (intOf j).toNat)
          case atStart => exact ⟨0, Nat.zero_le _, rfl, HE.out⟩
          case round =>
            obtain ⟨m, hm, rfl, hE⟩ := hrel
            clear HE
            have r9 : wr.cell? ⟨pb, 9, none⟩ = some (.slice (some ⟨g, off, none⟩) z.ls.length vfc) := (show wr.cell? ⟨pb, 9, none⟩ = some z.vf from hE.c9).trans (congrArg some HVF.out)
            have r1 : wr.cell? ⟨g, off + k, none⟩ = some (.slice dao bs.length dcap) := hE.at_ (show (penned z k ⟨.slice dao bs.length dcap, bs⟩ m).vf = _ from HVF.out) (penned_at HX.out m)
            by_cases hml : m < bs.length
            · obtain ⟨b, rfl⟩ := HF1.out (by omega)
              obtain ⟨hN, fz, u0, hu0⟩ := hE.pen HX.out hml rfl
              have HN : Hid _ := hN
              clear hE hN
              go_wp2_with fail
              go_roundw
              case rel => exact ⟨m + 1, by omega, by go_num, HN.out⟩
              case measure => simp [intOf]; omega
            · have hmm : m = bs.length := by omega
              subst hmm
              rw [show penned z k ⟨.slice dao bs.length dcap, bs⟩ bs.length = setLs z (inked z.ls (k + 1)) from penned_all HX.out] at hE
              have HN : Hid _ := hE
              clear hE
              go_wp2_with fail
              go_roundw
              case rel => exact ⟨k + 1, by omega, by go_num, HN.out⟩
              case measure => simp [intOf]; omega
        · have hkk : k = z.ls.length := by omega
          subst hkk
          have HFL : Hid _ := full_of HF.out
          have hv1 : (setLs z (inked z.ls z.ls.length)).vf = .slice vfo z.ls.length vfc := HVF.out
          have HV1 : Hid _ := hv1
          have HE : Hid _ := hE
          clear hE hv1 HVF HF hlt
          generalize setLs z (inked z.ls z.ls.length) = z1 at *
          generalize z.ls.length = n at *
          generalize hH : z.has = H at *
          have HH : Hid _ := hH
          clear hH
          go_wp2
          go_loopw [6, 7, 8, 9] (fun far i _ _ wr => FRel L pb H z1 n w wr far i) (fun _ i _ _ _ => n - (intOf i).toNat)
          case atStart => exact ⟨[], Nat.zero_le _, rfl, HE.out⟩
          case round =>
            obtain ⟨fs, hle, rfl, hE⟩ := hrel
            clear HE
            have q9 : wr.cell? ⟨pb, 9, none⟩ = some (.slice vfo n vfc) := hE.c9.trans (congrArg some HV1.out)
            by_cases hlt : fs.length < n
            · obtain ⟨⟨d, bs⟩, hx, hall, hsh⟩ := HFL.out.2 fs.length hlt
              obtain ⟨g, off, rfl⟩ := HFO.out (by omega)
              have e1 := hE.at_ HV1.out hx
              have hwk : IntKind.i64.wrap (-1000000 - (fs.length : Int)) = -1000000 - (fs.length : Int) := by rw [IntKind.wrap_i64]; omega
              obtain ⟨dao, dcap, hd, _⟩ := own_slice (hE.sh.dat _ (hE.mem hx).1)
              simp only at e1 hsh hd
              subst hd
              have HG : Hid _ := GSt.begin hE hx
              clear hE hx hall
              go_wp2
              go_loopw [8, 9] (fun mv j wr => ∃ m : Nat, m ≤ 100 ∧ j = .int .i64 m ∧ GSt L pb H z1 w wr u6 fs ⟨.slice dao bs.length dcap, bs⟩ mv m) (fun _ j _ => 100 - (intOf j).toNat)
              case atStart => exact ⟨0, Nat.zero_le _, rfl, HG.out⟩
              case round =>
                obtain ⟨m, hm, rfl, hG⟩ := hrel
                clear HG
                have hlow := hG.f.lowW
                by_cases hml : m < 100
                · have HG : Hid _ := hG
                  have hlen : bs.length + m + 1 ≤ 100000 := by omega
                  clear hG
                  go_wp2_with (at_builtin; refine Mk.out ?_)
                  refine Mk.mk ?_
                  refine wpList_appI rfl _ _ rfl L (bs.length + m) u8 (bs ++ List.replicate m (-1000000 - (fs.length : Int))) rfl HG.out.own (-1000000 - (fs.length : Int)) rfl (by first | rfl | simp) hlen hlow ?_
                  intro v' w4 ho4 hg4 hin4
                  have HN : Hid _ := HG.out.grow ho4 hg4 hin4
                  clear ho4 hg4 hin4
                  go_wp2_with fail
                  go_roundw
                  case rel => exact ⟨m + 1, by omega, by go_num, HN.out⟩
                  case measure => simp [intOf]; omega
                · have hmm : m = 100 := by omega
                  subst hmm
                  obtain ⟨mao, mcap, hmv, _⟩ := own_slice hG.own
                  subst hmv
                  have HG : Hid _ := hG
                  have hlen : fs.length + 1 ≤ 100000 := by omega
                  clear hG
                  go_wp2_with (at_builtin; refine Mk.out ?_)
                  refine Mk.mk ?_
                  refine wpList_appT rfl _ _ rfl L fs.length u6 (fs.map Dat.d) rfl HG.out.f.far rfl (by first | rfl | simp) hlen hlow ?_
                  intro g1 o1 c1 w1 hT1 hgr1 hloc1
                  have HN : Hid _ := HG.out.push hT1 hgr1 (fun k e => by cases e; exact hloc1)
                  clear hT1 hgr1 hloc1
                  go_wp2_with fail
                  go_roundw
                  case rel =>
                    refine ⟨_, ?_, ?_, HN.out⟩
                    · simp; omega
                    · refine len_c (n := fs.length) (by simp) ?_
                      go_num
                  case measure => simp [intOf]; omega
            · have hnn : fs.length = n := by omega
              subst hnn
              obtain ⟨fo, fc, hfv, _, hfat⟩ := tail_form hE.far
              subst hfv
              have HC : Hid _ := hE.chg
              have HE : Hid _ := hE
              have HFT : Hid _ := hfat
              clear hE hlt hfat hle
              rename World => W
              have hnz : ∃ n, n = fs.length := ⟨_, rfl⟩
              go_wp2
              go_loopw [10, 11, 12] (fun i _ _ wr => ∃ k : Nat, k ≤ fs.length ∧ i = .int .i64 k ∧ wr = W) (fun i _ _ _ => fs.length - (intOf i).toNat)
              case atStart => exact ⟨0, Nat.zero_le _, rfl, rfl⟩
              case round => 
                obtain ⟨k, hk, rfl, rfl⟩ := hrel
                by_cases hlt : k < fs.length
                · obtain ⟨⟨fd, fzs⟩, hfk⟩ : ∃ f, fs[k]? = some f := ⟨fs[k]'hlt, List.getElem?_eq_getElem _⟩
                  obtain ⟨⟨d, bs⟩, hx, hall, hsh⟩ := HFL.out.2 k hlt
                  obtain ⟨x, hx2, hzs, _⟩ := HE.out.loc k _ hfk
                  rw [hx] at hx2
                  cases hx2
                  obtain ⟨g, off, rfl⟩ := HFO.out (by omega)
                  have e1 := HE.out.at_ HV1.out hx
                  obtain ⟨gf, of, rfl, hfc⟩ := HFT.out (by omega)
                  have q1 := hfc k fd (by rw [List.getElem?_map, hfk]; rfl)
                  have hrf := HE.out.row _ (List.mem_of_getElem? hfk)
                  simp only at hzs hrf e1 hsh hall
                  subst hzs
                  have hl : (bs ++ List.replicate 100 (-1000000 - (k : Int))).length = bs.length + 100 := by simp
                  rw [hl] at hrf
                  obtain ⟨fao, fcap, rfl, _, _, hfcell⟩ := own_read hrf
                  obtain ⟨bf, rfl, _, _, hfcell⟩ := hfcell (by omega)
                  have hdo := HE.out.sh.dat _ (HE.out.mem hx).1
                  simp only at hdo
                  obtain ⟨dao, dcap, rfl, _, _, hdcell⟩ := own_read hdo
                  clear hdo
                  have HFC : Hid _ := hfcell
                  have HDC : Hid _ := hdcell
                  have HAL : Hid _ := hall
                  have hwk : IntKind.i64.wrap (-1000000 - (k : Int)) = -1000000 - (k : Int) := by rw [IntKind.wrap_i64]; omega
                  have hwj : IntKind.i64.wrap (-1 - (k : Int)) = -1 - (k : Int) := by rw [IntKind.wrap_i64]; omega
                  clear hfcell hdcell hall hrf hl hx hfk hfc
                  go_wp2
                  go_loopw [12] (fun j wr' => ∃ m : Nat, m ≤ bs.length + 100 ∧ j = .int .i64 m ∧ wr' = wr) (fun j _ => bs.length + 100 - (intOf j).toNat)
                  case atStart => exact ⟨0, Nat.zero_le _, rfl, rfl⟩
                  case round =>
                    obtain ⟨m, hm, rfl, rfl⟩ := hrel
                    by_cases hml : m < bs.length + 100
                    · by_cases hmb : m < bs.length
                      · obtain ⟨bx, rfl, _, _, hxc⟩ := HDC.out (by omega)
                        obtain ⟨u, hu⟩ : ∃ u, bs[m]? = some u := ⟨bs[m]'hmb, List.getElem?_eq_getElem _⟩
                        have hu2 := HAL.out m u hu
                        subst hu2
                        have r1 := hxc m (.int .i64 (-1 - (k : Int))) (by rw [List.getElem?_map, hu]; rfl)
                        have r2 := HFC.out m (.int .i64 (-1 - (k : Int))) (by rw [List.getElem?_map, List.getElem?_append_left hmb, hu]; rfl)
                        clear hxc hu
                        go_wp2_with fail
                        go_roundw
                        case rel => exact ⟨m + 1, by omega, by go_num, by first | rfl | trivial⟩
                        case measure => simp [intOf]; omega
                      · have q2 := HFC.out m (.int .i64 (-1000000 - (k : Int))) (by rw [List.getElem?_map, List.getElem?_append_right (by omega), List.getElem?_replicate, if_pos (by omega)]; rfl)
                        have hlt2 : ¬ (m : Int) < (bs.length : Int) := by omega
                        have hge2 : (bs.length : Int) ≤ (m : Int) := by omega
                        have hki : k < fs.length := hlt
                        have hmi : m < bs.length + 100 := hml
                        have hmi2 : (m : Int) < (bs.length : Int) + 100 := by omega
                        go_upto_region 30 with fail
                        refine wp_region_lit ?_
                        refine withFrS (N := 169) rfl ?_
                        intro f0 F0 hff
                        have hs6 : f0 6 = Value.slice (some ⟨gf, of, none⟩) fs.length fc := hff 6
                        have hs10 : f0 10 = Value.int .i64 k := hff 10
                        have hs11 : f0 11 = Value.int .i64 bs.length := hff 11
                        have hs12 : f0 12 = Value.int .i64 m := hff 12
                        clear hff
                        refine syp F0 rfl (by omega) (wanted_none rfl) (v := Value.int .i64 m) (by simp only [execOp, (F0.eval 12 (by omega)).trans (show _ = Value.int .i64 m from by simp [upd, hs6, hs10, hs11, hs12])]; first | rfl | simp [go_sem]) fun F1 => ?_
                        refine syp F1 rfl (by omega) (wanted_none rfl) (v := Value.int .i64 bs.length) (by simp only [execOp, (F1.eval 11 (by omega)).trans (show _ = Value.int .i64 bs.length from by simp [upd, hs6, hs10, hs11, hs12])]; first | rfl | simp [go_sem]) fun F2 => ?_
                        refine syp F2 rfl (by omega) (wanted_none rfl) (v := Value.bool false) (by simp only [execOp, (F2.eval 122 (by omega)).trans (show _ = Value.int .i64 m from by simp [upd, hs6, hs10, hs11, hs12]), (F2.eval 123 (by omega)).trans (show _ = Value.int .i64 bs.length from by simp [upd, hs6, hs10, hs11, hs12])]; simp [go_sem, Act.eval, hlt2]) fun F3 => ?_
                        refine syp F3 rfl (by omega) (wanted_none rfl) (v := Value.bool false) (by simp only [execOp, (F3.eval 124 (by omega)).trans (show _ = Value.bool false from by simp [upd, hs6, hs10, hs11, hs12])]; first | rfl | simp [go_sem]) fun F4 => ?_
                        refine snp F4 rfl (by omega) (want_no F4 rfl (e := 125) rfl (by omega) (show _ = Value.bool false from by simp [upd, hs6, hs10, hs11, hs12]) (by decide)) fun F5 => ?_
                        refine snp F5 rfl (by omega) (want_no F5 rfl (e := 125) rfl (by omega) (show _ = Value.bool false from by simp [upd, hs6, hs10, hs11, hs12]) (by decide)) fun F6 => ?_
                        refine snp F6 rfl (by omega) (want_no F6 rfl (e := 125) rfl (by omega) (show _ = Value.bool false from by simp [upd, hs6, hs10, hs11, hs12]) (by decide)) fun F7 => ?_
                        refine snp F7 rfl (by omega) (want_no F7 rfl (e := 125) rfl (by omega) (show _ = Value.bool false from by simp [upd, hs6, hs10, hs11, hs12]) (by decide)) fun F8 => ?_
                        refine snp F8 rfl (by omega) (want_no F8 rfl (e := 125) rfl (by omega) (show _ = Value.bool false from by simp [upd, hs6, hs10, hs11, hs12]) (by decide)) fun F9 => ?_
                        refine snp F9 rfl (by omega) (want_no F9 rfl (e := 125) rfl (by omega) (show _ = Value.bool false from by simp [upd, hs6, hs10, hs11, hs12]) (by decide)) fun F10 => ?_
                        refine snp F10 rfl (by omega) (want_no F10 rfl (e := 125) rfl (by omega) (show _ = Value.bool false from by simp [upd, hs6, hs10, hs11, hs12]) (by decide)) fun F11 => ?_
                        refine snp F11 rfl (by omega) (want_no F11 rfl (e := 125) rfl (by omega) (show _ = Value.bool false from by simp [upd, hs6, hs10, hs11, hs12]) (by decide)) fun F12 => ?_
                        refine snp F12 rfl (by omega) (want_no F12 rfl (e := 125) rfl (by omega) (show _ = Value.bool false from by simp [upd, hs6, hs10, hs11, hs12]) (by decide)) fun F13 => ?_
                        refine snp F13 rfl (by omega) (want_no F13 rfl (e := 125) rfl (by omega) (show _ = Value.bool false from by simp [upd, hs6, hs10, hs11, hs12]) (by decide)) fun F14 => ?_
                        refine snp F14 rfl (by omega) (want_no F14 rfl (e := 125) rfl (by omega) (show _ = Value.bool false from by simp [upd, hs6, hs10, hs11, hs12]) (by decide)) fun F15 => ?_
                        refine snp F15 rfl (by omega) (want_no F15 rfl (e := 125) rfl (by omega) (show _ = Value.bool false from by simp [upd, hs6, hs10, hs11, hs12]) (by decide)) fun F16 => ?_
                        refine snp F16 rfl (by omega) (want_no F16 rfl (e := 125) rfl (by omega) (show _ = Value.bool false from by simp [upd, hs6, hs10, hs11, hs12]) (by decide)) fun F17 => ?_
                        refine snp F17 rfl (by omega) (want_no F17 rfl (e := 125) rfl (by omega) (show _ = Value.bool false from by simp [upd, hs6, hs10, hs11, hs12]) (by decide)) fun F18 => ?_
                        refine snp F18 rfl (by omega) (want_not F18 rfl (e := 139) rfl (by omega) (show _ = undef from by simp [upd, hs6, hs10, hs11, hs12])) fun F19 => ?_
                        refine snp F19 rfl (by omega) (want_not F19 rfl (e := 139) rfl (by omega) (show _ = undef from by simp [upd, hs6, hs10, hs11, hs12])) fun F20 => ?_
                        refine snp F20 rfl (by omega) (want_not F20 rfl (e := 139) rfl (by omega) (show _ = undef from by simp [upd, hs6, hs10, hs11, hs12])) fun F21 => ?_
                        refine snp F21 rfl (by omega) (want_not F21 rfl (e := 139) rfl (by omega) (show _ = undef from by simp [upd, hs6, hs10, hs11, hs12])) fun F22 => ?_
                        refine snp F22 rfl (by omega) (want_not F22 rfl (e := 139) rfl (by omega) (show _ = undef from by simp [upd, hs6, hs10, hs11, hs12])) fun F23 => ?_
                        refine snp F23 rfl (by omega) (want_not F23 rfl (e := 139) rfl (by omega) (show _ = undef from by simp [upd, hs6, hs10, hs11, hs12])) fun F24 => ?_
                        refine snp F24 rfl (by omega) (want_not F24 rfl (e := 139) rfl (by omega) (show _ = undef from by simp [upd, hs6, hs10, hs11, hs12])) fun F25 => ?_
                        refine snp F25 rfl (by omega) (want_not F25 rfl (e := 139) rfl (by omega) (show _ = undef from by simp [upd, hs6, hs10, hs11, hs12])) fun F26 => ?_
                        refine snp F26 rfl (by omega) (want_not F26 rfl (e := 139) rfl (by omega) (show _ = undef from by simp [upd, hs6, hs10, hs11, hs12])) fun F27 => ?_
                        refine snp F27 rfl (by omega) (want_not F27 rfl (e := 139) rfl (by omega) (show _ = undef from by simp [upd, hs6, hs10, hs11, hs12])) fun F28 => ?_
                        refine snp F28 rfl (by omega) (want_no F28 rfl (e := 125) rfl (by omega) (show _ = Value.bool false from by simp [upd, hs6, hs10, hs11, hs12]) (by decide)) fun F29 => ?_
                        refine syp F29 rfl (by omega) (wanted_none rfl) (v := Value.bool false) (by simp only [execOp, (F29.eval 125 (by omega)).trans (show _ = Value.bool false from by simp [upd, hs6, hs10, hs11, hs12])]; simp [go_sem, Act.eval]) fun F30 => ?_
                        refine syp F30 rfl (by omega) (wanted_none rfl) (v := Value.bool false) (by simp only [execOp, (F30.eval 151 (by omega)).trans (show _ = Value.bool false from by simp [upd, hs6, hs10, hs11, hs12])]; first | rfl | simp [go_sem]) fun F31 => ?_
                        refine syp F31 rfl (by omega) (want_yes F31 rfl (e := 152) rfl (by omega) (show _ = Value.bool false from by simp [upd, hs6, hs10, hs11, hs12])) (v := Value.int .i64 m) (by simp only [execOp, (F31.eval 12 (by omega)).trans (show _ = Value.int .i64 m from by simp [upd, hs6, hs10, hs11, hs12])]; first | rfl | simp [go_sem]) fun F32 => ?_
                        refine syp F32 rfl (by omega) (want_yes F32 rfl (e := 152) rfl (by omega) (show _ = Value.bool false from by simp [upd, hs6, hs10, hs11, hs12])) (v := Value.int .i64 bs.length) (by simp only [execOp, (F32.eval 11 (by omega)).trans (show _ = Value.int .i64 bs.length from by simp [upd, hs6, hs10, hs11, hs12])]; first | rfl | simp [go_sem]) fun F33 => ?_
                        refine syp F33 rfl (by omega) (want_yes F33 rfl (e := 152) rfl (by omega) (show _ = Value.bool false from by simp [upd, hs6, hs10, hs11, hs12])) (v := Value.bool true) (by simp only [execOp, (F33.eval 153 (by omega)).trans (show _ = Value.int .i64 m from by simp [upd, hs6, hs10, hs11, hs12]), (F33.eval 154 (by omega)).trans (show _ = Value.int .i64 bs.length from by simp [upd, hs6, hs10, hs11, hs12])]; simp [go_sem, Act.eval, hge2]) fun F34 => ?_
                        refine syp F34 rfl (by omega) (want_yes F34 rfl (e := 152) rfl (by omega) (show _ = Value.bool false from by simp [upd, hs6, hs10, hs11, hs12])) (v := Value.bool true) (by simp only [execOp, (F34.eval 155 (by omega)).trans (show _ = Value.bool true from by simp [upd, hs6, hs10, hs11, hs12])]; first | rfl | simp [go_sem]) fun F35 => ?_
                        refine syp F35 rfl (by omega) (want_yes F35 rfl (e := 156) rfl (by omega) (show _ = Value.bool true from by simp [upd, hs6, hs10, hs11, hs12])) (v := Value.slice (some ⟨gf, of, none⟩) fs.length fc) (by simp only [execOp, (F35.eval 6 (by omega)).trans (show _ = Value.slice (some ⟨gf, of, none⟩) fs.length fc from by simp [upd, hs6, hs10, hs11, hs12])]; first | rfl | simp [go_sem]) fun F36 => ?_
                        refine syp F36 rfl (by omega) (want_yes F36 rfl (e := 156) rfl (by omega) (show _ = Value.bool true from by simp [upd, hs6, hs10, hs11, hs12])) (v := Value.int .i64 k) (by simp only [execOp, (F36.eval 10 (by omega)).trans (show _ = Value.int .i64 k from by simp [upd, hs6, hs10, hs11, hs12])]; first | rfl | simp [go_sem]) fun F37 => ?_
                        refine syp F37 rfl (by omega) (want_yes F37 rfl (e := 156) rfl (by omega) (show _ = Value.bool true from by simp [upd, hs6, hs10, hs11, hs12])) (v := Value.pointer (some ⟨gf, of + k, none⟩)) (by simp only [execOp, (F37.eval 157 (by omega)).trans (show _ = Value.slice (some ⟨gf, of, none⟩) fs.length fc from by simp [upd, hs6, hs10, hs11, hs12]), (F37.eval 158 (by omega)).trans (show _ = Value.int .i64 k from by simp [upd, hs6, hs10, hs11, hs12])]; simp [go_sem, Act.eval, hki]) fun F38 => ?_
                        refine syp F38 rfl (by omega) (want_yes F38 rfl (e := 156) rfl (by omega) (show _ = Value.bool true from by simp [upd, hs6, hs10, hs11, hs12])) (v := Value.slice (some ⟨bf, 0, none⟩) (bs.length + 100) fcap) (by simp only [execOp, (F38.eval 159 (by omega)).trans (show _ = Value.pointer (some ⟨gf, of + k, none⟩) from by simp [upd, hs6, hs10, hs11, hs12])]; simp [go_sem, Act.eval, q1]) fun F39 => ?_
                        refine syp F39 rfl (by omega) (want_yes F39 rfl (e := 156) rfl (by omega) (show _ = Value.bool true from by simp [upd, hs6, hs10, hs11, hs12])) (v := Value.int .i64 m) (by simp only [execOp, (F39.eval 12 (by omega)).trans (show _ = Value.int .i64 m from by simp [upd, hs6, hs10, hs11, hs12])]; first | rfl | simp [go_sem]) fun F40 => ?_
                        refine syp F40 rfl (by omega) (want_yes F40 rfl (e := 156) rfl (by omega) (show _ = Value.bool true from by simp [upd, hs6, hs10, hs11, hs12])) (v := Value.pointer (some ⟨bf, m, none⟩)) (by simp only [execOp, (F40.eval 160 (by omega)).trans (show _ = Value.slice (some ⟨bf, 0, none⟩) (bs.length + 100) fcap from by simp [upd, hs6, hs10, hs11, hs12]), (F40.eval 161 (by omega)).trans (show _ = Value.int .i64 m from by simp [upd, hs6, hs10, hs11, hs12])]; simp [go_sem, Act.eval, hmi, hmi2]) fun F41 => ?_
                        refine syp F41 rfl (by omega) (want_yes F41 rfl (e := 156) rfl (by omega) (show _ = Value.bool true from by simp [upd, hs6, hs10, hs11, hs12])) (v := Value.int .i64 (-1000000 - (k : Int))) (by simp only [execOp, (F41.eval 162 (by omega)).trans (show _ = Value.pointer (some ⟨bf, m, none⟩) from by simp [upd, hs6, hs10, hs11, hs12])]; simp [go_sem, Act.eval, q2]) fun F42 => ?_
                        refine syp F42 rfl (by omega) (want_yes F42 rfl (e := 156) rfl (by omega) (show _ = Value.bool true from by simp [upd, hs6, hs10, hs11, hs12])) (v := Value.int .i64 k) (by simp only [execOp, (F42.eval 10 (by omega)).trans (show _ = Value.int .i64 k from by simp [upd, hs6, hs10, hs11, hs12])]; first | rfl | simp [go_sem]) fun F43 => ?_
                        refine syp F43 rfl (by omega) (want_yes F43 rfl (e := 156) rfl (by omega) (show _ = Value.bool true from by simp [upd, hs6, hs10, hs11, hs12])) (v := Value.int .i64 (-1000000 - (k : Int))) (by simp only [execOp, (F43.eval 164 (by omega)).trans (show _ = Value.int .i64 k from by simp [upd, hs6, hs10, hs11, hs12])]; simp [go_sem, Act.eval, hwk]) fun F44 => ?_
                        refine syp F44 rfl (by omega) (want_yes F44 rfl (e := 156) rfl (by omega) (show _ = Value.bool true from by simp [upd, hs6, hs10, hs11, hs12])) (v := Value.bool false) (by simp only [execOp, (F44.eval 163 (by omega)).trans (show _ = Value.int .i64 (-1000000 - (k : Int)) from by simp [upd, hs6, hs10, hs11, hs12]), (F44.eval 165 (by omega)).trans (show _ = Value.int .i64 (-1000000 - (k : Int)) from by simp [upd, hs6, hs10, hs11, hs12])]; simp [go_sem, Act.eval]) fun F45 => ?_
                        refine syp F45 rfl (by omega) (want_yes F45 rfl (e := 152) rfl (by omega) (show _ = Value.bool false from by simp [upd, hs6, hs10, hs11, hs12])) (v := Value.bool false) (by simp only [execOp, (F45.eval 156 (by omega)).trans (show _ = Value.bool true from by simp [upd, hs6, hs10, hs11, hs12]), (F45.eval 166 (by omega)).trans (show _ = Value.bool false from by simp [upd, hs6, hs10, hs11, hs12])]; simp [go_sem, Act.eval]) fun F46 => ?_
                        refine syp F46 rfl (by omega) (wanted_none rfl) (v := Value.bool false) (by simp only [execOp, (F46.eval 152 (by omega)).trans (show _ = Value.bool false from by simp [upd, hs6, hs10, hs11, hs12]), (F46.eval 167 (by omega)).trans (show _ = Value.bool false from by simp [upd, hs6, hs10, hs11, hs12])]; simp [go_sem, Act.eval]) fun F47 => ?_
                        refine ⟨?_⟩
                        clear F0 F1 F2 F3 F4 F5 F6 F7 F8 F9 F10 F11 F12 F13 F14 F15 F16 F17 F18 F19 F20 F21 F22 F23 F24 F25 F26 F27 F28 F29 F30 F31 F32 F33 F34 F35 F36 F37 F38 F39 F40 F41 F42 F43 F44 F45 F46 F47 hs6 hs10 hs11 hs12
                        simp only [Act.put, List.setIfInBounds_toArray, List.set_cons_succ, List.set_cons_zero]
                        go_wp2_with fail
                        go_roundw
                        case rel => exact ⟨m + 1, by omega, by go_num, by first | rfl | trivial⟩
                        case measure => simp [intOf]; omega
                    · go_wp2_with fail
                      go_roundw
                      case rel => exact ⟨k + 1, by omega, by go_num, by first | rfl | trivial⟩
                      case measure => simp [intOf]; omega
                · go_wp2_with fail
                  go_ret
                  exact ⟨rfl, by rw [HH.out]; exact HC.out⟩
end Go.Proofs.YtkdndfdofhnagaaDoor
