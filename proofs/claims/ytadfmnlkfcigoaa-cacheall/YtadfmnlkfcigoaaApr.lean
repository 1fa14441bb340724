import Derived.Test.YtadfmnlkfcigoaaApT
import Derived.Deep.Cut
namespace Go.Proofs.Ytadfmnlkfcigoaa
open Go.RowKit Go.PlainAid
set_option linter.unusedVariables false
set_option linter.unusedSimpArgs false
set_option maxRecDepth 100000 in
set_option maxHeartbeats 12800000 in
theorem apart_gen (a : PA) (s : PV) (w : World) (h : PN a s w) :
    Calls Try.prog 18 #[.pointer (some ⟨a.pb, 0, none⟩)] w fun e w' => e = .returned (.bool true) ∧ Chg (has (a.ents s)) w w' := by
  obtain ⟨xx, r, mk, z⟩ := s
  obtain ⟨own0, ho0⟩ : ∃ own0, own0 = has (a.ents ⟨xx, r, mk, z⟩) := ⟨_, rfl⟩
  rw [← ho0]
  have HS : Hid (AS own0 w (a.pre ⟨xx, r, mk, z⟩ ++ (z.lc.map (dcE a.L) ++ z.base a.L)) w) := show AS own0 w _ w from by
    rw [ho0]
    exact h.asp
  have HF : Hid (NFull z) := h.f
  have HLOW : Hid (a.L ≤ w.heap.size) := h.lo
  have hTC : Tail w a.L 79 z.vlc z.lc.length (z.lc.map DC.d) := HS.out.h.all (z.e6 a.L) (by simp [NZ.base])
  obtain ⟨aoC, cC, hvC, hcC, hatC⟩ := tail_form hTC
  obtain ⟨gC, oC, hgC⟩ : ∃ g o, 0 < z.lc.length → aoC = some ⟨g, o, none⟩ := by
    by_cases h0 : 0 < z.lc.length
    · obtain ⟨g, o, e, _⟩ := hatC h0; exact ⟨g, o, fun _ => e⟩
    · exact ⟨0, 0, fun h => absurd h h0⟩
  have hTWC : Tail w a.L 79 z.vwc z.wc.length (z.wc.map DC.d) := HS.out.h.all (z.e7 a.L) (by simp [NZ.base])
  obtain ⟨aoWC, cWC, hvWC, hcWC, hatWC⟩ := tail_form hTWC
  obtain ⟨gWC, oWC, hgWC⟩ : ∃ g o, 0 < z.wc.length → aoWC = some ⟨g, o, none⟩ := by
    by_cases h0 : 0 < z.wc.length
    · obtain ⟨g, o, e, _⟩ := hatWC h0; exact ⟨g, o, fun _ => e⟩
    · exact ⟨0, 0, fun h => absurd h h0⟩
  obtain ⟨nc, hnc⟩ : ∃ nc, nc = z.lc.length := ⟨_, rfl⟩
  have hwnc : z.wc.length = nc := by
    rw [hnc]
    have := congrArg List.length h.f.wc1
    simpa using this
  have hlnc : nc ≤ 1000 := by rw [hnc]; exact h.f.n4
  rw [← hnc] at hvC hgC
  rw [hwnc] at hvWC hgWC
  have HVC : Hid (z.vlc = .slice aoC nc cC) := hvC
  have HVWC : Hid (z.vwc = .slice aoWC nc cWC) := hvWC
  have HGC : Hid (0 < nc → aoC = some ⟨gC, oC, none⟩) := hgC
  have HGWC : Hid (0 < nc → aoWC = some ⟨gWC, oWC, none⟩) := hgWC
  have HNC : Hid (nc = z.lc.length) := hnc
  have HNWC : Hid (z.wc.length = nc) := hwnc
  clear hTC hTWC hcC hcWC hatC hatWC hvC hvWC hgC hgWC hnc hwnc
  clear ho0 h
  go_enter Try.func18, Try.ntmps18
  go_wp2_with fail
  go_loopw [3] (fun s3 wr => ∃ k : Nat, k ≤ nc ∧ s3 = .int .i64 k ∧ AS own0 w (a.pre ⟨xx, r, mk, z⟩ ++ (z.lc.map (dcE a.L) ++ z.base a.L)) wr) (fun s3 _ => nc - (intOf s3).toNat)
  case atStart => exact ⟨0, by omega, rfl, HS.out⟩
  case round =>
    obtain ⟨k, hk, rfl, hS⟩ := hrel
    clear HS
    have HS : Hid (AS own0 w (a.pre ⟨xx, r, mk, z⟩ ++ (z.lc.map (dcE a.L) ++ z.base a.L)) wr) := hS
    have c7 : wr.cell? ⟨a.pb, 5, none⟩ = some (.slice aoC nc cC) := (hS.bx (List.mem_append.2 (Or.inl (PA.pre_box a ⟨xx, r, mk, z⟩))) 5).trans (by show some _ = _; rw [← HVC.out]; rfl)
    have c8 : wr.cell? ⟨a.pb, 6, none⟩ = some (.slice aoWC nc cWC) := (hS.bx (List.mem_append.2 (Or.inl (PA.pre_box a ⟨xx, r, mk, z⟩))) 6).trans (by show some _ = _; rw [← HVWC.out]; rfl)
    clear hS
    by_cases hlt : k < nc
    · obtain ⟨x, hx⟩ : ∃ x, z.lc[k]? = some x := ⟨z.lc[k]'(by have := HNC.out; omega), List.getElem?_eq_getElem _⟩
      obtain ⟨y, hy⟩ : ∃ y, z.wc[k]? = some y := ⟨z.wc[k]'(by have := HNWC.out; omega), List.getElem?_eq_getElem _⟩
      have hxy : y.cs = x.cs := by
        have h1 := congrArg (fun q => q[k]?) HF.out.wc1
        simp only [List.getElem?_map, hx, hy, Option.map_some, Option.some.injEq] at h1
        exact h1
      have hxl : x.cs.length ≤ 1000 := HF.out.s2 x (List.mem_append.2 (Or.inr (List.mem_append.2 (Or.inl (List.mem_of_getElem? hx)))))
      have hag := HGC.out (by omega)
      have hagw := HGWC.out (by omega)
      subst hag
      subst hagw
      have tL : Tail wr a.L 79 z.vlc z.lc.length (z.lc.map DC.d) := HS.out.h.all (z.e6 a.L) (by simp [NZ.base])
      have tW : Tail wr a.L 79 z.vwc z.wc.length (z.wc.map DC.d) := HS.out.h.all (z.e7 a.L) (by simp [NZ.base])
      rw [HVC.out, ← HNC.out] at tL
      rw [HVWC.out, HNWC.out] at tW
      have dL := tail_cell tL (j := k) (u := x.d) (by rw [List.getElem?_map, hx]; rfl)
      have dW := tail_cell tW (j := k) (u := y.d) (by rw [List.getElem?_map, hy]; rfl)
      have rx : World.ownsRow wr a.L 32 2 x.d x.cs.length (flatC x.cs) := HS.out.h.all (dcE a.L x) (List.mem_append.2 (Or.inr (List.mem_append.2 (Or.inl (List.mem_map.2 ⟨x, List.mem_of_getElem? hx, rfl⟩)))))
      have ry : World.ownsRow wr a.L 32 2 y.d y.cs.length (flatC y.cs) := HS.out.h.all (dcE a.L y) (List.mem_append.2 (Or.inr (List.mem_append.2 (Or.inr (List.mem_append.2 (Or.inr (List.mem_append.2 (Or.inr (List.mem_map.2 ⟨y, List.mem_of_getElem? hy, rfl⟩)))))))))
      have hsm : ∀ wz, Below wr.heap.size wr wz → Calls Try.prog 26 #[x.d, y.d] wz fun e w' => e = .returned (.bool true) ∧ Below wz.heap.size wz w' := fun wz hb => by
        have := sameC_any (w := wz) (ownsRow_same rx (fun g e => hb.block g (ownsRow_lt rx e).2)) (ownsRow_same ry (fun g e => hb.block g (ownsRow_lt ry e).2)) (by omega)
        rw [show decide (x.cs = y.cs) = true from decide_eq_true hxy.symm] at this
        refine this.mono ?_
        rintro e w' ⟨h1, h2⟩
        exact ⟨h1, by first | exact h2 | (obtain ⟨q, h2⟩ := h2; rw [h2]; exact below_drewN (Below.refl _ _) q)⟩
      have HSM : Hid _ := hsm
      obtain ⟨xd, hxd⟩ : ∃ xd, xd = x.d := ⟨_, rfl⟩
      obtain ⟨yd, hyd⟩ : ∃ yd, yd = y.d := ⟨_, rfl⟩
      rw [← hxd] at dL HSM
      rw [← hyd] at dW HSM
      clear tL tW rx ry hsm hx hy hxy hxl hxd hyd
      go_wp2_with fail
      rename_i K hK
      try rw [show ∀ a : Act, a.put none undef = a from fun _ => rfl]
      refine wp_region_mix (fun wz => Below wr.heap.size wr wz) (fun i => i == 14 || i == 99) 99 (by kernel_rfl) rfl (by kernel_rfl) (by kernel_rfl) (by kernel_rfl) ?_
      refine withFrP (N := 174) rfl ?_
      intro f0 F0 hff
      have e0 : f0 0 = Value.pointer (some ⟨a.pb, 0, none⟩) := hff 0
      have e3 : f0 3 = Value.int .i64 ((k : Nat) : Int) := hff 3
      clear hff
      have HCC : (fun wz => Below wr.heap.size wr wz) (({ wr with drawn := wr.drawn + 1 } : World)) := Below.drew (Below.refl _ _)
      have K7 : ∀ wz, Below wr.heap.size wr wz → wz.cell? ⟨a.pb, 5, none⟩ = some (.slice (some ⟨gC, oC, none⟩) nc cC) := fun wz h => (h.cell (p := ⟨a.pb, 5, none⟩) (World.block_lt_of_cell? wr _ c7)).trans c7
      have K8 : ∀ wz, Below wr.heap.size wr wz → wz.cell? ⟨a.pb, 6, none⟩ = some (.slice (some ⟨gWC, oWC, none⟩) nc cWC) := fun wz h => (h.cell (p := ⟨a.pb, 6, none⟩) (World.block_lt_of_cell? wr _ c8)).trans c8
      have KL0 : ∀ wz, Below wr.heap.size wr wz → wz.cell? ⟨gC, oC + k, none⟩ = some xd := fun wz h => (h.cell (p := ⟨gC, oC + k, none⟩) (World.block_lt_of_cell? wr _ dL)).trans dL
      have KW0 : ∀ wz, Below wr.heap.size wr wz → wz.cell? ⟨gWC, oWC + k, none⟩ = some yd := fun wz h => (h.cell (p := ⟨gWC, oWC + k, none⟩) (World.block_lt_of_cell? wr _ dW)).trans dW
      refine lyp F0 rfl HCC rfl (by omega) (wanted_none rfl) (v := Value.pointer (some ⟨a.pb, 0, none⟩)) (fun wr hwr => by simp only [execOp, (F0.eval 0 (by omega)).trans (show _ = Value.pointer (some ⟨a.pb, 0, none⟩) from by simp [upd, e0, e3])]; first | rfl | simp [go_sem]) fun Fp1 => ?_
      refine lyp Fp1 rfl HCC rfl (by omega) (wanted_none rfl) (v := Value.pointer (some ⟨a.pb, 0, none⟩)) (fun wr hwr => by simp only [execOp, (Fp1.eval 22 (by omega)).trans (show _ = Value.pointer (some ⟨a.pb, 0, none⟩) from by simp [upd, e0, e3])]; simp [go_sem]) fun Fp2 => ?_
      refine lyp Fp2 rfl HCC rfl (by omega) (wanted_none rfl) (v := Value.pointer (some ⟨a.pb, 5, none⟩)) (fun wr hwr => by simp only [execOp, (Fp2.eval 23 (by omega)).trans (show _ = Value.pointer (some ⟨a.pb, 0, none⟩) from by simp [upd, e0, e3])]; simp [go_sem]) fun Fp3 => ?_
      refine lyp Fp3 rfl HCC rfl (by omega) (wanted_none rfl) (v := Value.slice (some ⟨gC, oC, none⟩) nc cC) (fun wr hwr => by simp only [execOp, (Fp3.eval 24 (by omega)).trans (show _ = Value.pointer (some ⟨a.pb, 5, none⟩) from by simp [upd, e0, e3])]; simp [go_sem, K7 wr hwr]) fun Fp4 => ?_
      refine lyp Fp4 rfl HCC rfl (by omega) (wanted_none rfl) (v := Value.int .i64 ((k : Nat) : Int)) (fun wr hwr => by simp only [execOp, (Fp4.eval 3 (by omega)).trans (show _ = Value.int .i64 ((k : Nat) : Int) from by simp [upd, e0, e3])]; first | rfl | simp [go_sem]) fun Fp5 => ?_
      refine lyp Fp5 rfl HCC rfl (by omega) (wanted_none rfl) (v := Value.pointer (some ⟨gC, oC + k, none⟩)) (fun wr hwr => by simp only [execOp, (Fp5.eval 25 (by omega)).trans (show _ = Value.slice (some ⟨gC, oC, none⟩) nc cC from by simp [upd, e0, e3]), (Fp5.eval 26 (by omega)).trans (show _ = Value.int .i64 ((k : Nat) : Int) from by simp [upd, e0, e3])]; simp only [Sem.run_bind, Sem.run_pure, Result.andThen_ok, idx_run 55 79 1 Try.underlying55 isz79 wr gC oC nc cC k hlt, Nat.zero_add, Nat.mul_one]; try rfl) fun Fp6 => ?_
      refine lyp Fp6 rfl HCC rfl (by omega) (wanted_none rfl) (v := xd) (fun wr hwr => by simp only [execOp, (Fp6.eval 27 (by omega)).trans (show _ = Value.pointer (some ⟨gC, oC + k, none⟩) from by simp [upd, e0, e3])]; simp [go_sem, KL0 wr hwr]) fun Fp7 => ?_
      refine lyp Fp7 rfl HCC rfl (by omega) (wanted_none rfl) (v := Value.pointer (some ⟨a.pb, 0, none⟩)) (fun wr hwr => by simp only [execOp, (Fp7.eval 0 (by omega)).trans (show _ = Value.pointer (some ⟨a.pb, 0, none⟩) from by simp [upd, e0, e3])]; first | rfl | simp [go_sem]) fun Fp8 => ?_
      refine lyp Fp8 rfl HCC rfl (by omega) (wanted_none rfl) (v := Value.pointer (some ⟨a.pb, 0, none⟩)) (fun wr hwr => by simp only [execOp, (Fp8.eval 29 (by omega)).trans (show _ = Value.pointer (some ⟨a.pb, 0, none⟩) from by simp [upd, e0, e3])]; simp [go_sem]) fun Fp9 => ?_
      refine lyp Fp9 rfl HCC rfl (by omega) (wanted_none rfl) (v := Value.pointer (some ⟨a.pb, 6, none⟩)) (fun wr hwr => by simp only [execOp, (Fp9.eval 30 (by omega)).trans (show _ = Value.pointer (some ⟨a.pb, 0, none⟩) from by simp [upd, e0, e3])]; simp [go_sem]) fun Fp10 => ?_
      refine lyp Fp10 rfl HCC rfl (by omega) (wanted_none rfl) (v := Value.slice (some ⟨gWC, oWC, none⟩) nc cWC) (fun wr hwr => by simp only [execOp, (Fp10.eval 31 (by omega)).trans (show _ = Value.pointer (some ⟨a.pb, 6, none⟩) from by simp [upd, e0, e3])]; simp [go_sem, K8 wr hwr]) fun Fp11 => ?_
      refine lyp Fp11 rfl HCC rfl (by omega) (wanted_none rfl) (v := Value.int .i64 ((k : Nat) : Int)) (fun wr hwr => by simp only [execOp, (Fp11.eval 3 (by omega)).trans (show _ = Value.int .i64 ((k : Nat) : Int) from by simp [upd, e0, e3])]; first | rfl | simp [go_sem]) fun Fp12 => ?_
      refine lyp Fp12 rfl HCC rfl (by omega) (wanted_none rfl) (v := Value.pointer (some ⟨gWC, oWC + k, none⟩)) (fun wr hwr => by simp only [execOp, (Fp12.eval 32 (by omega)).trans (show _ = Value.slice (some ⟨gWC, oWC, none⟩) nc cWC from by simp [upd, e0, e3]), (Fp12.eval 33 (by omega)).trans (show _ = Value.int .i64 ((k : Nat) : Int) from by simp [upd, e0, e3])]; simp only [Sem.run_bind, Sem.run_pure, Result.andThen_ok, idx_run 55 79 1 Try.underlying55 isz79 wr gWC oWC nc cWC k hlt, Nat.zero_add, Nat.mul_one]; try rfl) fun Fp13 => ?_
      refine lyp Fp13 rfl HCC rfl (by omega) (wanted_none rfl) (v := yd) (fun wr hwr => by simp only [execOp, (Fp13.eval 34 (by omega)).trans (show _ = Value.pointer (some ⟨gWC, oWC + k, none⟩) from by simp [upd, e0, e3])]; simp [go_sem, KW0 wr hwr]) fun Fp14 => ?_
      refine lcp Fp14 rfl HCC rfl (by omega) (wanted_none rfl) (g := 26) (args := #[xd, yd]) (by simp only [execOp, resolve, invoke, List.map_toArray, List.map_cons, List.map_nil, (Fp14.eval 28 (by omega)).trans (show _ = xd from by simp [upd, e0, e3]), (Fp14.eval 35 (by omega)).trans (show _ = yd from by simp [upd, e0, e3])]; simp [go_sem, Act.eval]) (HSM.out (({ wr with drawn := wr.drawn + 1 } : World)) HCC) ?_
      rintro e w6 ⟨rfl, hb6⟩
      refine ⟨_, rfl, fun Fp15 => ?_⟩
      replace hb6 : Below wr.heap.size wr w6 := (Below.drew (Below.refl wr.heap.size wr)).trans hb6
      have HC6 : (fun wz => Below wr.heap.size wr wz) w6 := hb6
      refine lyp Fp15 rfl HC6 rfl (by omega) (wanted_none rfl) (v := Value.bool false) (fun wr hwr => by simp only [execOp, (Fp15.eval 36 (by omega)).trans (show _ = Value.bool true from by simp [upd, e0, e3])]; simp [go_sem, Act.eval]) fun Fp16 => ?_
      refine ⟨fun _ => HC6, ?_⟩
      refine hK _ _ ?_
      clear F0 Fp1 Fp2 Fp3 Fp4 Fp5 Fp6 Fp7 Fp8 Fp9 Fp10 Fp11 Fp12 Fp13 Fp14 Fp15 Fp16 e0 e3 HCC HC6 K7 K8 KL0 KW0
      simp only [Act.put, List.setIfInBounds_toArray, List.set_cons_succ, List.set_cons_zero]
      have HN2 : Hid (AS own0 w (a.pre ⟨xx, r, mk, z⟩ ++ (z.lc.map (dcE a.L) ++ z.base a.L)) w6) := HS.out.more hb6
      clear hb6 HS c7 c8 dL dW HSM
      go_wp2_with fail
      go_roundw
      case rel => exact ⟨k + 1, by omega, by go_num, HN2.out⟩
      case measure => simp [intOf]; omega
    · obtain ⟨W3, hW3⟩ : ∃ W3, W3 = wr := ⟨wr, rfl⟩
      subst hW3
      go_wp2_with fail
      clear c7 c8 hlt hk
      have HS0 : Hid (AS own0 w (a.pre ⟨xx, r, mk, z⟩ ++ ((inkd inkC z.lc 0).map (dcE a.L) ++ z.base a.L)) W3) := show AS own0 w (a.pre ⟨xx, r, mk, z⟩ ++ ((inkd inkC z.lc 0).map (dcE a.L) ++ z.base a.L)) W3 from by rw [inkd_0]; exact HS.out
      clear HS
      go_loopw [4, 5] (fun s3 _ wr => ∃ k : Nat, k ≤ nc ∧ s3 = .int .i64 k ∧ AS own0 w (a.pre ⟨xx, r, mk, z⟩ ++ ((inkd inkC z.lc k).map (dcE a.L) ++ z.base a.L)) wr) (fun s3 _ _ => nc - (intOf s3).toNat)
      case atStart => exact ⟨0, by omega, rfl, HS0.out⟩
      case round =>
        obtain ⟨k, hk, rfl, hS⟩ := hrel
        clear HS0
        have HS : Hid (AS own0 w (a.pre ⟨xx, r, mk, z⟩ ++ ((inkd inkC z.lc k).map (dcE a.L) ++ z.base a.L)) wr) := hS
        have c7 : wr.cell? ⟨a.pb, 5, none⟩ = some (.slice aoC nc cC) := (hS.bx (List.mem_append.2 (Or.inl (PA.pre_box a ⟨xx, r, mk, z⟩))) 5).trans (by show some _ = _; rw [← HVC.out]; rfl)
        clear hS
        by_cases hlt : k < nc
        · obtain ⟨x, hx⟩ : ∃ x, z.lc[k]? = some x := ⟨z.lc[k]'(by have := HNC.out; omega), List.getElem?_eq_getElem _⟩
          have hxl : x.cs.length ≤ 1000 := HF.out.s2 x (List.mem_append.2 (Or.inr (List.mem_append.2 (Or.inl (List.mem_of_getElem? hx)))))
          have hag := HGC.out (by omega)
          subst hag
          have HX : Hid (z.lc[k]? = some x) := hx
          obtain ⟨xd, ys⟩ := x
          simp only at hxl
          have hsp := split_at (inkd_at (f := inkC) hx)
          obtain ⟨A, hA⟩ : ∃ A, A = (inkd inkC z.lc k).take k := ⟨_, rfl⟩
          obtain ⟨Bl, hBl⟩ : ∃ Bl, Bl = (inkd inkC z.lc k).drop (k + 1) := ⟨_, rfl⟩
          rw [← hA, ← hBl] at hsp
          have hstep : A ++ inkC k ⟨xd, ys⟩ :: Bl = inkd inkC z.lc (k + 1) := by rw [hA, hBl]; exact inkd_step hx
          have hS1 := HS.out
          rw [hsp, List.map_append, List.map_cons, List.append_assoc, List.cons_append] at hS1
          have rx : World.ownsRow wr a.L 32 2 xd ys.length (flatC ys) := hS1.h.all (dcE a.L ⟨xd, ys⟩) (by simp)
          obtain ⟨aox, capx, hxd, hnx⟩ := own_slice rx
          subst hxd
          have hcapx : capx ≤ maxLen := by obtain ⟨_, _, e, _, h, _⟩ := own_read rx; cases e; exact h
          unfold maxLen at hcapx
          obtain ⟨nx, hnx0⟩ : ∃ nx, nx = ys.length := ⟨_, rfl⟩
          rw [← hnx0] at hxl hnx rx
          have HNX : Hid (nx = ys.length) := hnx0
          have HM0 : Hid (AS own0 w (a.pre ⟨xx, r, mk, z⟩ ++ ((A.map (dcE a.L)) ++ dcE a.L ⟨.slice aox nx capx, List.replicate 0 ((-1 - (k : Int), 0) : Int × Int) ++ ys.drop 0⟩ :: (Bl.map (dcE a.L) ++ z.base a.L))) wr) := show AS own0 w (a.pre ⟨xx, r, mk, z⟩ ++ ((A.map (dcE a.L)) ++ dcE a.L ⟨.slice aox nx capx, List.replicate 0 ((-1 - (k : Int), 0) : Int × Int) ++ ys.drop 0⟩ :: (Bl.map (dcE a.L) ++ z.base a.L))) wr from by rw [List.replicate_zero, List.nil_append, List.drop_zero, hnx0]; exact hS1
          have HSTEP : Hid (A ++ inkC k ⟨.slice aox nx capx, ys⟩ :: Bl = inkd inkC z.lc (k + 1)) := show _ = _ from by rw [hnx0]; exact hstep
          have HDL : Hid (∀ wz q, AS own0 w (a.pre ⟨xx, r, mk, z⟩ ++ ((A.map (dcE a.L)) ++ dcE a.L ⟨.slice aox nx capx, List.replicate q ((-1 - (k : Int), 0) : Int × Int) ++ ys.drop q⟩ :: (Bl.map (dcE a.L) ++ z.base a.L))) wz → wz.cell? ⟨gC, oC + k, none⟩ = some (.slice aox nx capx)) := fun wz q hq => by
            have tL : Tail wz a.L 79 z.vlc z.lc.length (z.lc.map DC.d) := hq.h.all (z.e6 a.L) (by simp [NZ.base])
            rw [HVC.out, ← HNC.out] at tL
            exact tail_cell tL (j := k) (by rw [List.getElem?_map, HX.out, hnx0]; rfl)
          have HC7 : Hid (∀ wz q, AS own0 w (a.pre ⟨xx, r, mk, z⟩ ++ ((A.map (dcE a.L)) ++ dcE a.L ⟨.slice aox nx capx, List.replicate q ((-1 - (k : Int), 0) : Int × Int) ++ ys.drop q⟩ :: (Bl.map (dcE a.L) ++ z.base a.L))) wz → wz.cell? ⟨a.pb, 5, none⟩ = some (.slice (some ⟨gC, oC, none⟩) nc cC)) := fun wz q hq => (hq.bx (List.mem_append.2 (Or.inl (PA.pre_box a ⟨xx, r, mk, z⟩))) 5).trans (by show some _ = _; rw [← HVC.out]; rfl)
          clear hsp hstep hS1 rx hx hA hBl hnx0 HS HX
          go_wp2_with fail
          go_loopw [5] (fun s6 wr => ∃ q : Nat, q ≤ nx ∧ s6 = .int .i64 q ∧ AS own0 w (a.pre ⟨xx, r, mk, z⟩ ++ ((A.map (dcE a.L)) ++ dcE a.L ⟨.slice aox nx capx, List.replicate q ((-1 - (k : Int), 0) : Int × Int) ++ ys.drop q⟩ :: (Bl.map (dcE a.L) ++ z.base a.L))) wr) (fun s6 _ => nx - (intOf s6).toNat)
          case atStart => exact ⟨0, by omega, rfl, HM0.out⟩
          case round =>
            obtain ⟨q, hq, rfl, hS⟩ := hrel
            clear HM0
            have d7 := HC7.out wr q hS
            have dL := HDL.out wr q hS
            by_cases hql : q < nx
            · have rx : World.ownsRow wr a.L 32 2 (.slice aox nx capx) (List.replicate q ((-1 - (k : Int), 0) : Int × Int) ++ ys.drop q).length (flatC (List.replicate q ((-1 - (k : Int), 0) : Int × Int) ++ ys.drop q)) := hS.h.all (dcE a.L ⟨.slice aox nx capx, List.replicate q ((-1 - (k : Int), 0) : Int × Int) ++ ys.drop q⟩) (by simp)
              rw [show (List.replicate q ((-1 - (k : Int), 0) : Int × Int) ++ ys.drop q).length = nx from by simp; have := HNX.out; omega] at rx
              obtain ⟨gx, hgx⟩ : ∃ g, aox = some ⟨g, 0, none⟩ := by
                obtain ⟨_, _, e, _, _, h⟩ := own_read rx
                cases e
                obtain ⟨g, e, _⟩ := h (by omega)
                exact ⟨g, e⟩
              subst hgx
              obtain ⟨f1, f2, f3, f3', u0, u1, f4, f5⟩ := fillC rx (by have := HNX.out; omega) HNX.out
              have HN2 : Hid (AS own0 w (a.pre ⟨xx, r, mk, z⟩ ++ ((A.map (dcE a.L)) ++ dcE a.L ⟨.slice (some ⟨gx, 0, none⟩) nx capx, List.replicate (q + 1) ((-1 - (k : Int), 0) : Int × Int) ++ ys.drop (q + 1)⟩ :: (Bl.map (dcE a.L) ++ z.base a.L))) ((wr.setCell ⟨gx, q * 2, none⟩ (.int .i64 (-1 - (k : Int)))).setCell ⟨gx, q * 2 + 1, none⟩ (.int .i64 0))) := AS.mid2 hS (e' := dcE a.L ⟨.slice (some ⟨gx, 0, none⟩) nx capx, List.replicate (q + 1) ((-1 - (k : Int), 0) : Int × Int) ++ ys.drop (q + 1)⟩) f2 (show World.ownsRow _ a.L 32 2 _ (List.replicate (q + 1) ((-1 - (k : Int), 0) : Int × Int) ++ ys.drop (q + 1)).length _ from by rw [show (List.replicate (q + 1) ((-1 - (k : Int), 0) : Int × Int) ++ ys.drop (q + 1)).length = nx from by simp; have := HNX.out; omega]; exact f1) (fun k hk => Or.inl hk)
              have hwk : IntKind.i64.wrap (-1 - (k : Int)) = -1 - (k : Int) := by rw [IntKind.wrap_i64]; omega
              simp only at f3' f5
              clear f1 f2 rx hS
              go_wp2_with fail
              go_roundw
              case rel => exact ⟨q + 1, by omega, by go_num, HN2.out⟩
              case measure => simp [intOf]; omega
            · obtain rfl : q = nx := by omega
              have HN2 : Hid (AS own0 w (a.pre ⟨xx, r, mk, z⟩ ++ ((inkd inkC z.lc (k + 1)).map (dcE a.L) ++ z.base a.L)) wr) := show AS own0 w (a.pre ⟨xx, r, mk, z⟩ ++ ((inkd inkC z.lc (k + 1)).map (dcE a.L) ++ z.base a.L)) wr from by
                have := hS
                rw [← HSTEP.out, List.map_append, List.map_cons, List.append_assoc, List.cons_append]
                rwa [show List.replicate q ((-1 - (k : Int), 0) : Int × Int) ++ ys.drop q = (inkC k ⟨.slice aox q capx, ys⟩).cs from by rw [List.drop_of_length_le (by have := HNX.out; omega), List.append_nil]; show List.replicate q ((-1 - (k : Int), 0) : Int × Int) = List.replicate ys.length ((-1 - (k : Int), 0) : Int × Int); rw [← HNX.out]] at this
              clear hS
              go_wp2_with fail
              go_roundw
              case rel => exact ⟨k + 1, by omega, by go_num, HN2.out⟩
              case measure => simp [intOf]; omega
        · obtain rfl : nc = k := by omega
          obtain ⟨W4, hW4⟩ : ∃ W4, W4 = wr := ⟨wr, rfl⟩
          subst hW4
          go_wp2_with fail
          clear c7 hlt hk
          have HT0 : Hid (AS own0 w (tailE a.L 79 (.slice none 0 0) 0 (([] : List DC).map DC.d) :: (a.pre ⟨xx, r, mk, z⟩ ++ (plC a.L (inkd inkC z.lc nc) ([] : List DC) ++ z.base a.L))) W4) := show AS own0 w _ W4 from by
            have h0 := HS.out
            rw [← plC_nil] at h0
            exact h0.fresh (e := tailE a.L 79 (.slice none 0 0) 0 []) (Below.refl _ _) (tail_nil _ _ _) (fun k hk => by cases hk)
          clear HS
          go_loopw [6, 7, 8, 9] (fun s9 s3 _ _ wr => ∃ v9, v9 = s9 ∧ ∃ k : Nat, k ≤ nc ∧ s3 = .int .i64 k ∧ ∃ fs : List DC, fs.length = k ∧ (∀ (i : Nat) (f : DC) (x : DC), fs[i]? = some f → (inkd inkC z.lc nc)[i]? = some x → f.cs = x.cs ++ List.replicate 100 ((-1000000 - (i : Int), 0) : Int × Int)) ∧ AS own0 w (tailE a.L 79 v9 k (fs.map DC.d) :: (a.pre ⟨xx, r, mk, z⟩ ++ (plC a.L (inkd inkC z.lc nc) fs ++ z.base a.L))) wr) (fun _ s3 _ _ _ => nc - (intOf s3).toNat)
          case atStart => exact ⟨_, rfl, 0, by omega, rfl, [], rfl, (fun i f x h => by simp at h), HT0.out⟩
          case round =>
            obtain ⟨v9, rfl, k, hk, rfl, fs, hfl, hfar, hS⟩ := hrel
            clear HT0
            have HS : Hid (AS own0 w (tailE a.L 79 v9 k (fs.map DC.d) :: (a.pre ⟨xx, r, mk, z⟩ ++ (plC a.L (inkd inkC z.lc nc) fs ++ z.base a.L))) wr) := hS
            have HFL : Hid (fs.length = k) := hfl
            have HFAR : Hid ((∀ (i : Nat) (f : DC) (x : DC), fs[i]? = some f → (inkd inkC z.lc nc)[i]? = some x → f.cs = x.cs ++ List.replicate 100 ((-1000000 - (i : Int), 0) : Int × Int))) := hfar
            have c7 : wr.cell? ⟨a.pb, 5, none⟩ = some (.slice aoC nc cC) := (hS.bx (List.mem_cons_of_mem _ (List.mem_append.2 (Or.inl (PA.pre_box a ⟨xx, r, mk, z⟩)))) 5).trans (by show some _ = _; rw [← HVC.out]; rfl)
            have hT9 : Tail wr a.L 79 v9 k (fs.map DC.d) := hS.h.all _ (List.mem_cons_self ..)
            obtain ⟨ao9, cap9, hv9, hc9, _⟩ := tail_form hT9
            clear hfl hfar
            by_cases hlt : k < nc
            · have hxk : k < (inkd inkC z.lc nc).length := by rw [inkd_len]; have := HNC.out; omega
              obtain ⟨x, hx⟩ : ∃ x, (inkd inkC z.lc nc)[k]? = some x := ⟨(inkd inkC z.lc nc)[k]'hxk, List.getElem?_eq_getElem _⟩
              obtain ⟨x0, hx0⟩ : ∃ x, z.lc[k]? = some x := ⟨z.lc[k]'(by have := HNC.out; omega), List.getElem?_eq_getElem _⟩
              have hxx : x = inkC k x0 := by
                have := inkd_all (f := inkC) hx0 hlt
                rw [hx] at this
                exact Option.some.inj this
              have hxd : x.d = x0.d := by rw [hxx]; rfl
              have hxl : x.cs.length ≤ 1000 := by
                rw [hxx]
                show (List.replicate _ _).length ≤ 1000
                rw [List.length_replicate]
                exact HF.out.s2 x0 (List.mem_append.2 (Or.inr (List.mem_append.2 (Or.inl (List.mem_of_getElem? hx0)))))
              have hag := HGC.out (by omega)
              subst hag
              have hsp := split_at hx
              obtain ⟨A, hA⟩ : ∃ A, A = (inkd inkC z.lc nc).take k := ⟨_, rfl⟩
              obtain ⟨Bl, hBl⟩ : ∃ Bl, Bl = (inkd inkC z.lc nc).drop (k + 1) := ⟨_, rfl⟩
              rw [← hA, ← hBl] at hsp
              have hAl : fs.length = A.length := by rw [HFL.out, hA, List.length_take]; omega
              have HSN : Hid (∀ ff, plC a.L (inkd inkC z.lc nc) (fs ++ [ff]) = plC a.L A fs ++ prC a.L x ff :: Bl.map (dcE a.L)) := fun ff => by rw [hsp]; exact plC_snoc a.L A Bl x ff fs hAl
              have hS1 := HS.out
              rw [hsp, plC_split a.L A Bl x fs hAl, List.append_assoc, List.cons_append] at hS1
              have rx : World.ownsRow wr a.L 32 2 x.d x.cs.length (flatC x.cs) := hS1.h.all (dcE a.L x) (by simp)
              have hS2 : AS own0 w (tailE a.L 79 v9 k (fs.map DC.d) :: (a.pre ⟨xx, r, mk, z⟩ ++ (plC a.L A fs ++ prC a.L x x :: (Bl.map (dcE a.L) ++ z.base a.L)))) wr := AS.mid2 (Q := tailE a.L 79 v9 k (fs.map DC.d) :: a.pre ⟨xx, r, mk, z⟩) (e' := prC a.L x x) hS1 (Chg.refl _ _) ⟨rx, rx⟩ (fun k hk => Or.inl (hk.elim id id))
              obtain ⟨aox, capx, hxd2, hnx⟩ := own_slice rx
              have tL : Tail wr a.L 79 z.vlc z.lc.length (z.lc.map DC.d) := HS.out.h.all (z.e6 a.L) (by simp [NZ.base])
              rw [HVC.out, ← HNC.out] at tL
              have dL := tail_cell tL (j := k) (u := x.d) (by rw [List.getElem?_map, hx0, hxd]; rfl)
              rw [hxd2] at dL
              have HM0 : Hid (AS own0 w (tailE a.L 79 v9 k (fs.map DC.d) :: (a.pre ⟨xx, r, mk, z⟩ ++ (plC a.L A fs ++ prC a.L x x :: (Bl.map (dcE a.L) ++ z.base a.L)))) wr) := hS2
              have HXD : Hid (x.d = .slice aox x.cs.length capx) := hxd2
              have HXK : Hid ((inkd inkC z.lc nc)[k]? = some x) := hx
              clear tL hS2 rx hS1 hsp hA hBl hAl hx hx0 hxx hxd hxk hS hT9 hv9 hc9 hxd2
              go_wp2_with fail
              go_loopw [8, 9] (fun s12 s13 wr => ∃ j : Nat, j ≤ 100 ∧ s13 = .int .i64 j ∧ ∃ ff : DC, s12 = ff.d ∧ ff.cs = x.cs ++ List.replicate j ((-1000000 - (k : Int), 0) : Int × Int) ∧ AS own0 w (tailE a.L 79 v9 k (fs.map DC.d) :: (a.pre ⟨xx, r, mk, z⟩ ++ (plC a.L A fs ++ prC a.L x ff :: (Bl.map (dcE a.L) ++ z.base a.L)))) wr) (fun _ s13 _ => 100 - (intOf s13).toNat)
              case atStart => exact ⟨0, by omega, rfl, x, HXD.out.symm, by simp, HM0.out⟩
              case round =>
                obtain ⟨j, hj, rfl, ff, rfl, hff, hS⟩ := hrel
                clear HM0
                obtain ⟨fd, fs2⟩ := ff
                simp only at hff
                have hP : (prC a.L x ⟨fd, fs2⟩).P wr := hS.h.all _ (by simp)
                have rf : World.ownsRow wr a.L 32 2 fd fs2.length (flatC fs2) := hP.2
                have HFL2 : Hid (fs2.length = x.cs.length + j) := show _ = _ from by rw [hff]; simp
                have hfle : fs2.length ≤ 1100 := by have := HFL2.out; omega
                obtain ⟨aom, capm, hvm, hcm⟩ := own_slice rf
                subst hvm
                have hcapm : capm ≤ maxLen := by obtain ⟨_, _, e, _, h, _⟩ := own_read rf; cases e; exact h
                unfold maxLen at hcapm
                by_cases hjl : j < 100
                · have hwk : IntKind.i64.wrap (-1000000 - (k : Int)) = -1000000 - (k : Int) := by rw [IntKind.wrap_i64]; omega
                  have hal : Below wr.heap.size wr (wr.alloc (.cells #[.int .i64 (-1000000 - (k : Int)), .int .i64 0] 32)) := (Below.refl _ _).alloc (Nat.le_refl _) _
                  have hS1 := hS.more hal
                  have rf1 : World.ownsRow (wr.alloc (.cells #[.int .i64 (-1000000 - (k : Int)), .int .i64 0] 32)) a.L 32 2 (.slice aom fs2.length capm) fs2.length (flatC fs2) := ownsRow_same rf (fun g e => hal.block g (ownsRow_lt rf e).2)
                  obtain ⟨v6, w6, hr6, ho6, hg6, hin6⟩ := app_any (w := wr.alloc (.cells #[.int .i64 (-1000000 - (k : Int)), .int .i64 0] 32)) 79 32 (.agg #[.int .i64 0, .int .i64 0]) 2 16 Try.underlying79 info32 rfl (by decide) (by decide) rf1 ⟨wr.heap.size, 0, none⟩ 1 1 [Value.int .i64 (-1000000 - (k : Int)), .int .i64 0] rfl (fun q u hu => by
                    have hB : Blk (wr.alloc (.cells #[.int .i64 (-1000000 - (k : Int)), .int .i64 0] 32)) wr.heap.size #[Value.int .i64 (-1000000 - (k : Int)), .int .i64 0] 32 := heap_alloc_new wr _
                    rw [addr_add, Nat.zero_add, hB.cell q]
                    simpa using hu) (fun u hu => by simp at hu; rcases hu with rfl | rfl <;> rfl) (by omega) (Nat.le_trans HLOW.out hS1.chg.size) 79
                  obtain ⟨ao6, cap6, hv6, _⟩ := own_slice ho6
                  subst hv6
                  have hlen6 : (fs2 ++ [((-1000000 - (k : Int), 0) : Int × Int)]).length = fs2.length + 1 := by simp
                  have hfl6 : flatC (fs2 ++ [((-1000000 - (k : Int), 0) : Int × Int)]) = flatC fs2 ++ [Value.int .i64 (-1000000 - (k : Int)), .int .i64 0] := by simp [flatC]
                  have hN : AS own0 w (tailE a.L 79 v9 k (fs.map DC.d) :: (a.pre ⟨xx, r, mk, z⟩ ++ (plC a.L A fs ++ prC a.L x (⟨.slice ao6 (fs2.length + 1) cap6, fs2 ++ [((-1000000 - (k : Int), 0) : Int × Int)]⟩ : DC) :: (Bl.map (dcE a.L) ++ z.base a.L)))) w6 := grow2_prC (Q := tailE a.L 79 v9 k (fs.map DC.d) :: a.pre ⟨xx, r, mk, z⟩) (f := ⟨.slice aom fs2.length capm, fs2⟩) hS1 (by have := HFL2.out; simp only; omega) (show World.ownsRow w6 a.L 32 2 _ _ _ from by rw [hlen6, hfl6]; exact ho6) hg6 hin6
                  have HNN : Hid _ := hN
                  have HFF : Hid (fs2 ++ [((-1000000 - (k : Int), 0) : Int × Int)] = x.cs ++ List.replicate (j + 1) ((-1000000 - (k : Int), 0) : Int × Int)) := show _ = _ from by rw [hff, List.append_assoc, List.replicate_succ']
                  have HR6 : Hid (∀ ty, (Builtin.append_ #[79, 79] ty #[.slice aom fs2.length capm, .slice (some ⟨wr.heap.size, 0, none⟩) 1 1]).run Try.prog (wr.alloc (.cells #[.int .i64 (-1000000 - (k : Int)), .int .i64 0] 32)) = .ok (.slice ao6 (fs2.length + 1) cap6) w6) := fun ty => hr6
                  clear hal hS1 rf1 hr6 ho6 hg6 hin6 hlen6 hfl6 hN hP rf hS hff
                  go_wp2_with (at_builtin; refine wpList_runs rfl _ _ 79 rfl rfl rfl HR6.out ?_)
                  go_roundw
                  case rel => exact ⟨j + 1, by omega, by go_num, ⟨.slice ao6 (fs2.length + 1) cap6, fs2 ++ [((-1000000 - (k : Int), 0) : Int × Int)]⟩, rfl, HFF.out, HNN.out⟩
                  case measure => simp [intOf]; omega

                · obtain rfl : j = 100 := by omega
                  have hT9 : Tail wr a.L 79 v9 k (fs.map DC.d) := hS.h.all _ (List.mem_cons_self ..)
                  obtain ⟨ao9, cap9, hv9, _, _⟩ := tail_form hT9
                  obtain ⟨g9, o9, cc9, W9, hrun9, hT9', hc9, hu9⟩ := app_tail 55 79 (.slice none 0 0) 24 Try.underlying55 info79 rfl (by decide) hT9 (.slice aom fs2.length capm) rfl (by omega) (Nat.le_trans HLOW.out hS.chg.size)
                  subst hv9
                  have HN2 : Hid (AS own0 w (tailE a.L 79 (.slice (some ⟨g9, o9, none⟩) (k + 1) cc9) (k + 1) ((fs ++ [(⟨.slice aom fs2.length capm, fs2⟩ : DC)]).map DC.d) :: (a.pre ⟨xx, r, mk, z⟩ ++ (plC a.L (inkd inkC z.lc nc) (fs ++ [(⟨.slice aom fs2.length capm, fs2⟩ : DC)]) ++ z.base a.L))) W9) := show AS own0 w _ W9 from by
                    have h1 := hS.swap (e' := tailE a.L 79 (.slice (some ⟨g9, o9, none⟩) (k + 1) cc9) (k + 1) ((fs ++ [(⟨.slice aom fs2.length capm, fs2⟩ : DC)]).map DC.d)) hc9 (show Tail W9 a.L 79 _ _ _ from by rw [List.map_append]; exact hT9') hu9
                    rw [HSN.out, List.append_assoc, List.cons_append]
                    exact h1
                  have HFAR2 : Hid ((∀ (i : Nat) (f : DC) (x : DC), (fs ++ [(⟨.slice aom fs2.length capm, fs2⟩ : DC)])[i]? = some f → (inkd inkC z.lc nc)[i]? = some x → f.cs = x.cs ++ List.replicate 100 ((-1000000 - (i : Int), 0) : Int × Int))) := fun i f xx hf hxx => by
                    by_cases hi : i < fs.length
                    · rw [List.getElem?_append_left hi] at hf
                      exact HFAR.out i f xx hf hxx
                    · rw [List.getElem?_append_right (by omega)] at hf
                      by_cases e : i - fs.length = 0
                      · obtain rfl : i = k := by have := HFL.out; omega
                        rw [e] at hf
                        simp at hf
                        subst hf
                        rw [HXK.out] at hxx
                        cases hxx
                        exact hff
                      · rw [List.getElem?_eq_none (by simp; omega)] at hf; cases hf
                  have HR9 : Hid (∀ ty, (Builtin.append_ #[55, 55] ty #[.slice ao9 k cap9, .slice (some ⟨wr.heap.size, 0, none⟩) 1 1]).run Try.prog (wr.alloc (.cells #[.slice aom fs2.length capm] 79)) = .ok (.slice (some ⟨g9, o9, none⟩) (k + 1) cc9) W9) := hrun9
                  clear hT9 hrun9 hT9' hc9 hu9 hS hP rf hff
                  go_wp2_with (at_builtin; refine wpList_runs rfl _ _ 55 rfl rfl rfl HR9.out ?_)
                  go_roundw
                  case rel => exact ⟨_, rfl, k + 1, by omega, by go_num, fs ++ [⟨.slice aom fs2.length capm, fs2⟩], by simp [HFL.out], HFAR2.out, HN2.out⟩
                  case measure => simp [intOf]; omega
            · obtain rfl : nc = k := by omega
              obtain ⟨W5, hW5⟩ : ∃ W5, W5 = wr := ⟨wr, rfl⟩
              subst hW5
              subst hv9
              obtain ⟨fsC, hfsC⟩ : ∃ fsC, fsC = fs := ⟨fs, rfl⟩
              subst hfsC
              obtain ⟨ao9C, hao9C⟩ : ∃ q, q = ao9 := ⟨ao9, rfl⟩
              subst hao9C
              obtain ⟨cap9C, hcap9C⟩ : ∃ q, q = cap9 := ⟨cap9, rfl⟩
              subst hcap9C
              have HFLC : Hid (fsC.length = nc) := HFL.out
              have HFARC : Hid ((∀ (i : Nat) (f : DC) (x : DC), fsC[i]? = some f → (inkd inkC z.lc nc)[i]? = some x → f.cs = x.cs ++ List.replicate 100 ((-1000000 - (i : Int), 0) : Int × Int))) := HFAR.out
              clear hT9 hc9 hS
              go_wp2_with fail
              clear c7 hlt hk HFL HFAR
              as_aux_lemma =>
                go_loopw [10, 11, 12] (fun s10 _ _ wr => ∃ k : Nat, k ≤ nc ∧ s10 = .int .i64 k ∧ AS own0 w (tailE a.L 79 (.slice ao9C nc cap9C) nc (fsC.map DC.d) :: (a.pre ⟨xx, r, mk, z⟩ ++ (plC a.L (inkd inkC z.lc nc) fsC ++ z.base a.L))) wr) (fun s10 _ _ _ => nc - (intOf s10).toNat)
                case atStart => exact ⟨0, by omega, rfl, HS.out⟩
                case round =>
                  obtain ⟨k, hk, rfl, hS⟩ := hrel
                  clear HS
                  have HS : Hid (AS own0 w (tailE a.L 79 (.slice ao9C nc cap9C) nc (fsC.map DC.d) :: (a.pre ⟨xx, r, mk, z⟩ ++ (plC a.L (inkd inkC z.lc nc) fsC ++ z.base a.L))) wr) := hS
                  have c7 : wr.cell? ⟨a.pb, 5, none⟩ = some (.slice aoC nc cC) := (hS.bx (List.mem_cons_of_mem _ (List.mem_append.2 (Or.inl (PA.pre_box a ⟨xx, r, mk, z⟩)))) 5).trans (by show some _ = _; rw [← HVC.out]; rfl)
                  by_cases hlt : k < nc
                  · obtain ⟨x0, hx0⟩ : ∃ x, z.lc[k]? = some x := ⟨z.lc[k]'(by have := HNC.out; omega), List.getElem?_eq_getElem _⟩
                    obtain ⟨f, hf⟩ : ∃ x, fsC[k]? = some x := ⟨fsC[k]'(by have := HFLC.out; omega), List.getElem?_eq_getElem _⟩
                    have hxk : (inkd inkC z.lc nc)[k]? = some (inkC k x0) := inkd_all hx0 hlt
                    have hP : (prC a.L (inkC k x0) f).P wr := hS.h.all _ (by
                      have := plC_mem a.L _ _ k _ _ hxk hf
                      simp only [List.mem_cons, List.mem_append]
                      exact Or.inr (Or.inr (Or.inl this)))
                    have hag := HGC.out (by omega)
                    subst hag
                    have tL : Tail wr a.L 79 z.vlc z.lc.length (z.lc.map DC.d) := hS.h.all (z.e6 a.L) (by simp [NZ.base])
                    rw [HVC.out, ← HNC.out] at tL
                    have t9 : Tail wr a.L 79 (.slice ao9C nc cap9C) nc (fsC.map DC.d) := hS.h.all (tailE a.L 79 (.slice ao9C nc cap9C) nc (fsC.map DC.d)) (by simp)
                    obtain ⟨g9, o9, hg9⟩ : ∃ g o, ao9C = some ⟨g, o, none⟩ := by
                      obtain ⟨_, _, e, _, h⟩ := tail_form t9
                      cases e
                      obtain ⟨g, o, e, _⟩ := h (by omega)
                      exact ⟨g, o, e⟩
                    subst hg9
                    have hxl : x0.cs.length ≤ 1000 := HF.out.s2 x0 (List.mem_append.2 (Or.inr (List.mem_append.2 (Or.inl (List.mem_of_getElem? hx0)))))
                    obtain ⟨aox, capx, gx, gf, capf, e1, hcx, hax, e2, hcf, h4, h5⟩ := chkC (m := ((-1 - (k : Int), 0) : Int × Int)) (p := ((-1000000 - (k : Int), 0) : Int × Int)) hP rfl (HFARC.out k f _ hf hxk)
                    have dL := tail_cell tL (j := k) (u := .slice aox x0.cs.length capx) (by rw [List.getElem?_map, hx0]; exact congrArg some e1)
                    have dF := tail_cell t9 (j := k) (u := .slice (some ⟨gf, 0, none⟩) (x0.cs.length + 100) capf) (by rw [List.getElem?_map, hf]; exact congrArg some e2)
                    obtain ⟨nx, hnx⟩ : ∃ nx, nx = x0.cs.length := ⟨_, rfl⟩
                    rw [← hnx] at dL dF hxl hax h4 h5 hcx hcf
                    clear tL t9 hP hxk hx0 hf e1 e2 hnx hS
                    have HAX : Hid (0 < nx → aox = some ⟨gx, 0, none⟩) := hax
                    clear hax
                    have H4 : Hid (∀ j, j < nx → wr.cell? ⟨gx, j * 2, none⟩ = some (.int .i64 (-1 - (k : Int))) ∧ wr.cell? ⟨gf, j * 2, none⟩ = some (.int .i64 (-1 - (k : Int)))) := h4
                    have H5 : Hid (∀ j, nx ≤ j → j < nx + 100 → wr.cell? ⟨gf, j * 2, none⟩ = some (.int .i64 (-1000000 - (k : Int)))) := h5
                    have HS1 : Hid _ := HS.out
                    have hwk1 : IntKind.i64.wrap (-1 - (k : Int)) = -1 - (k : Int) := by rw [IntKind.wrap_i64]; omega
                    have hwk2 : IntKind.i64.wrap (-1000000 - (k : Int)) = -1000000 - (k : Int) := by rw [IntKind.wrap_i64]; omega
                    clear h4 h5 HS
                    obtain ⟨X1, hX1⟩ : ∃ X1, X1 = wr := ⟨_, rfl⟩
                    subst hX1
                    go_wp2_with fail
                    go_loopw [12] (fun s12 wr2 => ∃ j : Nat, j ≤ nx + 100 ∧ s12 = .int .i64 j ∧ wr2 = X1) (fun s12 _ => nx + 100 - (intOf s12).toNat)
                    case atStart => exact ⟨0, by omega, rfl, rfl⟩
                    case round =>
                      obtain ⟨j, hj, rfl, hwr⟩ := hrel
                      subst hwr
                      by_cases hjl : j < nx + 100
                      · by_cases hjn : j < nx
                        · obtain ⟨p1, p2⟩ := H4.out j hjn
                          have hag := HAX.out (by omega)
                          subst hag
                          go_wp2_with fail
                          go_roundw
                          case rel => exact ⟨j + 1, by omega, by go_num, by first | rfl | trivial⟩
                          case measure => simp [intOf]; omega
                        · have p2 := H5.out j (by omega) hjl
                          go_wp2_with fail
                          go_roundw
                          case rel => exact ⟨j + 1, by omega, by go_num, by first | rfl | trivial⟩
                          case measure => simp [intOf]; omega
                      · go_wp2_with fail
                        go_roundw
                        case rel => exact ⟨k + 1, by omega, by go_num, HS1.out⟩
                        case measure => simp [intOf]; omega
                  · obtain ⟨W6, hW6⟩ : ∃ W6, W6 = wr := ⟨wr, rfl⟩
                    subst hW6
                    clear hS
                    go_wp2_with fail
                    clear c7 hlt hk
                    go_ret
                    exact ⟨rfl, HS.out.chg⟩




end Go.Proofs.Ytadfmnlkfcigoaa
