import Derived.Test.YtbjlaloofpdbfaaApT
import Derived.Deep.Cut
namespace Go.Proofs.Ytbjlaloofpdbfaa
open Go.RowKit Go.PlainAid
set_option linter.unusedVariables false
set_option linter.unusedSimpArgs false
theorem isz51 : (Try.prog.info? 51).map (·.size) = some 1 := by kernel_rfl
theorem isz45 : (Try.prog.info? 45).map (·.size) = some 1 := by kernel_rfl
theorem tail_cell {w : World} {L e n g off cap j : Nat} {xs : List Value} {u : Value} (h : Tail w L e (.slice (some ⟨g, off, none⟩) n cap) n xs) (hu : xs[j]? = some u) : w.cell? ⟨g, off + j, none⟩ = some u := by
  rcases h.2 with ⟨h1, _⟩ | ⟨g', off', cap', h1, _, _, _, h2⟩
  · cases h1
  · cases h1
    exact h2 j u hu
theorem isz9' : (Try.prog.info? 9).map (·.size) = some 1 := by kernel_rfl
def mkT (j : Nat) : List UInt8 := [UInt8.ofNat j, UInt8.ofNat (j / 256)]
def inkT (j : Nat) (x : DS) : DS := ⟨x.d, List.replicate x.ss.length (mkT j)⟩
def inkC (j : Nat) (x : DC) : DC := ⟨x.d, List.replicate x.cs.length ((-1 - (j : Int), 0) : Int × Int)⟩
theorem wrap8 (n : Nat) : IntKind.u8.wrap (n : Int) = ((UInt8.ofNat n).toNat : Int) := by
  simp only [IntKind.wrap, IntKind.bits, IntKind.signed]
  simp
theorem wrap8' (n : Nat) : IntKind.u8.wrap ((n : Int) / 256) = ((UInt8.ofNat (n / 256)).toNat : Int) := by
  have := wrap8 (n / 256)
  simpa using this
theorem quo256 (n : Nat) : (n : Int).tdiv 256 = ((n / 256 : Nat) : Int) := by
  rw [Int.tdiv_eq_ediv_of_nonneg (by omega)]
  omega
theorem conv_two (W : World) (u0 u1 : UInt8) : (convert 22 9 (.slice (some ⟨W.heap.size, 0, none⟩) 2 2)).run Try.prog (W.alloc (.cells #[.int .u8 (u0.toNat : Int), .int .u8 (u1.toNat : Int)] 5)) = .ok (.string ⟨[u0, u1].toArray⟩) (W.alloc (.cells #[.int .u8 (u0.toNat : Int), .int .u8 (u1.toNat : Int)] 5)) := by
  refine conv_run _ _ 2 2 [u0, u1] rfl (fun _ => ⟨W.heap.size, 0, rfl, fun j u hu => ?_⟩)
  have hB : Blk (W.alloc (.cells #[.int .u8 (u0.toNat : Int), .int .u8 (u1.toNat : Int)] 5)) W.heap.size #[.int .u8 (u0.toNat : Int), .int .u8 (u1.toNat : Int)] 5 := heap_alloc_new W _
  rw [Nat.zero_add, hB.cell j]
  match j, hu with
  | 0, hu => cases hu; rfl
  | 1, hu => cases hu; rfl
  | j + 2, hu => simp at hu
theorem AS.mid2 {a : PA} {kl wl : Value} {KL : List (List UInt8)} {WT WL : List ((Int × Int) × OpA)} {own0 : Nat → Prop} {w0 w w' : World} {C : Array Value} {Q A R : List (Ent a.S0)} {e e' : Ent a.S0} (h : AS a kl wl KL WT WL own0 w0 C (Q ++ (A ++ e :: R)) w) (hc : Chg e.bl w w') (hP : e'.P w') (hu : ∀ k, e'.bl k → e.bl k ∨ w.heap.size ≤ k) : AS a kl wl KL WT WL own0 w0 C (Q ++ (A ++ e' :: R)) w' := by
  rw [← List.append_assoc] at h ⊢
  exact h.mid hc hP hu
theorem conv_three (W : World) (u0 u1 : UInt8) : (convert 22 9 (.slice (some ⟨W.heap.size, 0, none⟩) 3 3)).run Try.prog (W.alloc (.cells #[.int .u8 43, .int .u8 (u0.toNat : Int), .int .u8 (u1.toNat : Int)] 5)) = .ok (.string ⟨[43, u0, u1].toArray⟩) (W.alloc (.cells #[.int .u8 43, .int .u8 (u0.toNat : Int), .int .u8 (u1.toNat : Int)] 5)) := by
  refine conv_run _ _ 3 3 [43, u0, u1] rfl (fun _ => ⟨W.heap.size, 0, rfl, fun j u hu => ?_⟩)
  have hB : Blk (W.alloc (.cells #[.int .u8 43, .int .u8 (u0.toNat : Int), .int .u8 (u1.toNat : Int)] 5)) W.heap.size #[.int .u8 43, .int .u8 (u0.toNat : Int), .int .u8 (u1.toNat : Int)] 5 := heap_alloc_new W _
  rw [Nat.zero_add, hB.cell j]
  match j, hu with
  | 0, hu => cases hu; rfl
  | 1, hu => cases hu; rfl
  | 2, hu => cases hu; rfl
  | j + 3, hu => simp at hu
theorem chkS {L : Nat} {w : World} {x f : DS} {m p : List UInt8} {n : Nat} (hP : (prS L x f).P w) (hx : x.ss = List.replicate n m) (hf : f.ss = x.ss ++ List.replicate 100 p) :
    ∃ aox capx gx gf capf, x.d = .slice aox n capx ∧ n ≤ capx ∧ (0 < n → aox = some ⟨gx, 0, none⟩) ∧ f.d = .slice (some ⟨gf, 0, none⟩) (n + 100) capf ∧ n + 100 ≤ capf ∧ (∀ j, j < n → w.cell? ⟨gx, j, none⟩ = some (.string ⟨m.toArray⟩) ∧ w.cell? ⟨gf, j, none⟩ = some (.string ⟨m.toArray⟩)) ∧ ∀ j, n ≤ j → j < n + 100 → w.cell? ⟨gf, j, none⟩ = some (.string ⟨p.toArray⟩) := by
  obtain ⟨h1, h2⟩ := hP
  rw [hx] at hf h1
  rw [hf] at h2
  simp only [List.length_append, List.length_replicate] at h1 h2
  obtain ⟨ao, cap, e1, hc1, _, c1⟩ := own_read h1
  obtain ⟨ao2, cap2, e2, hc2, _, c2⟩ := own_read h2
  obtain ⟨gf, rfl, _, _, q2⟩ := c2 (by omega)
  have k2 : ∀ j, j < n + 100 → w.cell? ⟨gf, j, none⟩ = some (.string ⟨(if j < n then m else p).toArray⟩) := fun j hj => q2 j _ (by
    unfold flatS
    rw [List.getElem?_map]
    by_cases h : j < n
    · rw [List.getElem?_append_left (by simpa using h), List.getElem?_replicate, if_pos h, if_pos h]; rfl
    · rw [List.getElem?_append_right (by simpa using h), List.getElem?_replicate, if_pos (by simp; omega), if_neg h]; rfl)
  by_cases h0 : 0 < n
  · obtain ⟨gx, rfl, _, _, q1⟩ := c1 h0
    refine ⟨_, _, gx, gf, _, e1, hc1, fun _ => rfl, e2, hc2, fun j hj => ⟨q1 j _ (by unfold flatS; rw [List.getElem?_map, List.getElem?_replicate, if_pos hj]; rfl), ?_⟩, fun j h1 h2 => ?_⟩
    · have := k2 j (by omega); rwa [if_pos hj] at this
    · have := k2 j h2; rwa [if_neg (by omega)] at this
  · refine ⟨_, _, 0, gf, _, e1, hc1, fun h => absurd h h0, e2, hc2, fun j hj => absurd hj (by omega), fun j h1 h2 => ?_⟩
    have := k2 j h2; rwa [if_neg (by omega)] at this
theorem chkC {L : Nat} {w : World} {x f : DC} {m p : Int × Int} {n : Nat} (hP : (prC L x f).P w) (hx : x.cs = List.replicate n m) (hf : f.cs = x.cs ++ List.replicate 100 p) :
    ∃ aox capx gx gf capf, x.d = .slice aox n capx ∧ n ≤ capx ∧ (0 < n → aox = some ⟨gx, 0, none⟩) ∧ f.d = .slice (some ⟨gf, 0, none⟩) (n + 100) capf ∧ n + 100 ≤ capf ∧ (∀ j, j < n → w.cell? ⟨gx, j * 2, none⟩ = some (.int .i64 m.1) ∧ w.cell? ⟨gf, j * 2, none⟩ = some (.int .i64 m.1)) ∧ ∀ j, n ≤ j → j < n + 100 → w.cell? ⟨gf, j * 2, none⟩ = some (.int .i64 p.1) := by
  obtain ⟨h1, h2⟩ := hP
  rw [hx] at hf h1
  rw [hf] at h2
  simp only [List.length_append, List.length_replicate] at h1 h2
  obtain ⟨ao, cap, e1, hc1, _, c1⟩ := own_read h1
  obtain ⟨ao2, cap2, e2, hc2, _, c2⟩ := own_read h2
  obtain ⟨gf, rfl, _, _, _⟩ := c2 (by omega)
  rw [e2] at h2
  have k2 : ∀ j, j < n + 100 → w.cell? ⟨gf, j * 2, none⟩ = some (.int .i64 (if j < n then m else p).1) := fun j hj => (cellC h2 (by
    by_cases h : j < n
    · rw [List.getElem?_append_left (by simpa using h), List.getElem?_replicate, if_pos h, if_pos h]
    · rw [List.getElem?_append_right (by simpa using h), List.getElem?_replicate, if_pos (by simp; omega), if_neg h])).1
  by_cases h0 : 0 < n
  · obtain ⟨gx, rfl, _, _, _⟩ := c1 h0
    rw [e1] at h1
    refine ⟨_, _, gx, gf, _, e1, hc1, fun _ => rfl, e2, hc2, fun j hj => ⟨(cellC h1 (c := m) (by rw [List.getElem?_replicate, if_pos hj])).1, ?_⟩, fun j h1 h2 => ?_⟩
    · have := k2 j (by omega); rwa [if_pos hj] at this
    · have := k2 j h2; rwa [if_neg (by omega)] at this
  · refine ⟨_, _, 0, gf, _, e1, hc1, fun h => absurd h h0, e2, hc2, fun j hj => absurd hj (by omega), fun j h1 h2 => ?_⟩
    have := k2 j h2; rwa [if_neg (by omega)] at this
theorem grow2_prS {a : PA} {kl wl : Value} {KL : List (List UInt8)} {WT WL : List ((Int × Int) × OpA)} {own0 : Nat → Prop} {w0 w w' : World} {C : Array Value} {Q A R : List (Ent a.S0)} {x f f' : DS} (h : AS a kl wl KL WT WL own0 w0 C (Q ++ (A ++ prS a.S0 x f :: R)) w) (hn : x.ss.length ≤ f.ss.length)
    (ho : w'.ownsRow a.S0 9 1 f'.d f'.ss.length (flatS f'.ss)) (hg : Grew w w' f.d f'.d) (hin : ∀ (d : Value) (n' base' : Nat) (zs : List Value), n' ≤ f.ss.length → d.ownBlock = f.d.ownBlock → w.ownsRow base' 9 1 d n' zs → w'.ownsRow base' 9 1 d n' zs) :
    AS a kl wl KL WT WL own0 w0 C (Q ++ (A ++ prS a.S0 x f' :: R)) w' := by
  rw [← List.append_assoc] at h ⊢
  exact grow_prS h hn ho hg hin
theorem grow2_prC {a : PA} {kl wl : Value} {KL : List (List UInt8)} {WT WL : List ((Int × Int) × OpA)} {own0 : Nat → Prop} {w0 w w' : World} {C : Array Value} {Q A R : List (Ent a.S0)} {x f f' : DC} (h : AS a kl wl KL WT WL own0 w0 C (Q ++ (A ++ prC a.S0 x f :: R)) w) (hn : x.cs.length ≤ f.cs.length)
    (ho : w'.ownsRow a.S0 37 2 f'.d f'.cs.length (flatC f'.cs)) (hg : Grew w w' f.d f'.d) (hin : ∀ (d : Value) (n' base' : Nat) (zs : List Value), n' ≤ f.cs.length → d.ownBlock = f.d.ownBlock → w.ownsRow base' 37 2 d n' zs → w'.ownsRow base' 37 2 d n' zs) :
    AS a kl wl KL WT WL own0 w0 C (Q ++ (A ++ prC a.S0 x f' :: R)) w' := by
  rw [← List.append_assoc] at h ⊢
  exact grow_prC h hn ho hg hin
set_option maxRecDepth 100000 in
set_option maxHeartbeats 12800000 in
theorem apart_gen (a : PA) (s : PV) (w : World) (h : PN a s w) :
    Calls Try.prog 30 #[.pointer (some ⟨a.pb, 0, none⟩)] w fun e w' => e = .returned (.bool true) ∧ Chg (a.own s) w w' := by
  obtain ⟨kl, wl, KL, WL, mk, z⟩ := s
  obtain ⟨own0, ho0⟩ : ∃ own0, own0 = a.own ⟨kl, wl, KL, WL, mk, z⟩ := ⟨_, rfl⟩
  rw [← ho0]
  have HS : Hid (AS a kl wl KL WL WL own0 w (z.box a mk) (z.lt.map (dsE a.S0) ++ (z.lc.map (dcE a.S0) ++ z.base a.S0)) w) := show AS a kl wl KL WL WL own0 w (z.box a mk) _ w from by
    rw [ho0]
    exact h.as.perm (z.split a.S0)
  have HF : Hid (NFull z) := h.f
  have HLOW : Hid (a.S0 ≤ w.heap.size) := h.low
  have hTT : Tail w a.S0 51 z.vlt z.lt.length (z.lt.map DS.d) := NZ.h4 h.h
  obtain ⟨aoT, cT, hvT, hcT, hatT⟩ := tail_form hTT
  obtain ⟨gT, oT, hgT⟩ : ∃ g o, 0 < z.lt.length → aoT = some ⟨g, o, none⟩ := by
    by_cases h0 : 0 < z.lt.length
    · obtain ⟨g, o, e, _⟩ := hatT h0; exact ⟨g, o, fun _ => e⟩
    · exact ⟨0, 0, fun h => absurd h h0⟩
  have hTWT : Tail w a.S0 51 z.vwt z.wt.length (z.wt.map DS.d) := NZ.h5 h.h
  obtain ⟨aoWT, cWT, hvWT, hcWT, hatWT⟩ := tail_form hTWT
  obtain ⟨gWT, oWT, hgWT⟩ : ∃ g o, 0 < z.wt.length → aoWT = some ⟨g, o, none⟩ := by
    by_cases h0 : 0 < z.wt.length
    · obtain ⟨g, o, e, _⟩ := hatWT h0; exact ⟨g, o, fun _ => e⟩
    · exact ⟨0, 0, fun h => absurd h h0⟩
  obtain ⟨nt, hnt⟩ : ∃ nt, nt = z.lt.length := ⟨_, rfl⟩
  have hwnt : z.wt.length = nt := by
    rw [hnt]
    have := congrArg List.length h.f.wt1
    simpa using this
  have hlnt : nt ≤ 1000 := by rw [hnt]; exact h.f.n3
  rw [← hnt] at hvT hgT
  rw [hwnt] at hvWT hgWT
  have HVT : Hid (z.vlt = .slice aoT nt cT) := hvT
  have HVWT : Hid (z.vwt = .slice aoWT nt cWT) := hvWT
  have HGT : Hid (0 < nt → aoT = some ⟨gT, oT, none⟩) := hgT
  have HGWT : Hid (0 < nt → aoWT = some ⟨gWT, oWT, none⟩) := hgWT
  have HNT : Hid (nt = z.lt.length) := hnt
  have HNWT : Hid (z.wt.length = nt) := hwnt
  clear hTT hTWT hcT hcWT hatT hatWT hvT hvWT hgT hgWT hnt hwnt
  have hTC : Tail w a.S0 45 z.vlc z.lc.length (z.lc.map DC.d) := NZ.h6 h.h
  obtain ⟨aoC, cC, hvC, hcC, hatC⟩ := tail_form hTC
  obtain ⟨gC, oC, hgC⟩ : ∃ g o, 0 < z.lc.length → aoC = some ⟨g, o, none⟩ := by
    by_cases h0 : 0 < z.lc.length
    · obtain ⟨g, o, e, _⟩ := hatC h0; exact ⟨g, o, fun _ => e⟩
    · exact ⟨0, 0, fun h => absurd h h0⟩
  have hTWC : Tail w a.S0 45 z.vwc z.wc.length (z.wc.map DC.d) := NZ.h7 h.h
  obtain ⟨aoWC, cWC, hvWC, hcWC, hatWC⟩ := tail_form hTWC
  obtain ⟨gWC, oWC, hgWC⟩ : ∃ g o, 0 < z.wc.length → aoWC = some ⟨g, o, none⟩ := by
    by_cases h0 : 0 < z.wc.length
    · obtain ⟨g, o, e, _⟩ := hatWC h0; exact ⟨g, o, fun _ => e⟩
    · exact ⟨0, 0, fun h => absurd h h0⟩
  obtain ⟨nc, hnc⟩ : ∃ nc, nc = z.lc.length := ⟨_, rfl⟩
  have hwnc : z.wc.length = nc := by
    rw [hnc]
    have := congrArg List.length h.f.wc1
    simpa using this
  have hlnc : nc ≤ 1000 := by rw [hnc]; exact h.f.n4
  rw [← hnc] at hvC hgC
  rw [hwnc] at hvWC hgWC
  have HVC : Hid (z.vlc = .slice aoC nc cC) := hvC
  have HVWC : Hid (z.vwc = .slice aoWC nc cWC) := hvWC
  have HGC : Hid (0 < nc → aoC = some ⟨gC, oC, none⟩) := hgC
  have HGWC : Hid (0 < nc → aoWC = some ⟨gWC, oWC, none⟩) := hgWC
  have HNC : Hid (nc = z.lc.length) := hnc
  have HNWC : Hid (z.wc.length = nc) := hwnc
  clear hTC hTWC hcC hcWC hatC hatWC hvC hvWC hgC hgWC hnc hwnc
  clear ho0 h
  go_enter Try.func30, Try.ntmps30
  go_wp2_with fail
  go_loopw [3] (fun s3 wr => ∃ k : Nat, k ≤ nt ∧ s3 = .int .i64 k ∧ AS a kl wl KL WL WL own0 w (z.box a mk) (z.lt.map (dsE a.S0) ++ (z.lc.map (dcE a.S0) ++ z.base a.S0)) wr) (fun s3 _ => nt - (intOf s3).toNat)
  case atStart => exact ⟨0, by omega, rfl, HS.out⟩
  case round =>
    obtain ⟨k, hk, rfl, hS⟩ := hrel
    clear HS
    have HS : Hid (AS a kl wl KL WL WL own0 w (z.box a mk) (z.lt.map (dsE a.S0) ++ (z.lc.map (dcE a.S0) ++ z.base a.S0)) wr) := hS
    have c7 : wr.cell? ⟨a.pb, 7, none⟩ = some (.slice aoT nt cT) := (hS.cell 7).trans (by rw [← HVT.out]; rfl)
    have c8 : wr.cell? ⟨a.pb, 8, none⟩ = some (.slice aoWT nt cWT) := (hS.cell 8).trans (by rw [← HVWT.out]; rfl)
    clear hS
    by_cases hlt : k < nt
    · obtain ⟨x, hx⟩ : ∃ x, z.lt[k]? = some x := ⟨z.lt[k]'(by have := HNT.out; omega), List.getElem?_eq_getElem _⟩
      obtain ⟨y, hy⟩ : ∃ y, z.wt[k]? = some y := ⟨z.wt[k]'(by have := HNWT.out; omega), List.getElem?_eq_getElem _⟩
      have hxy : y.ss = x.ss := by
        have h1 := congrArg (fun q => q[k]?) HF.out.wt1
        simp only [List.getElem?_map, hx, hy, Option.map_some, Option.some.injEq] at h1
        exact h1
      have hxl : x.ss.length ≤ 1000 := HF.out.s1 x (List.mem_append.2 (Or.inr (List.mem_append.2 (Or.inl (List.mem_of_getElem? hx)))))
      have hag := HGT.out (by omega)
      have hagw := HGWT.out (by omega)
      subst hag
      subst hagw
      have tL : Tail wr a.S0 51 z.vlt z.lt.length (z.lt.map DS.d) := HS.out.h.all (z.e4 a.S0) (List.mem_append.2 (Or.inr (List.mem_append.2 (Or.inr (by unfold NZ.base; simp)))))
      have tW : Tail wr a.S0 51 z.vwt z.wt.length (z.wt.map DS.d) := HS.out.h.all (z.e5 a.S0) (List.mem_append.2 (Or.inr (List.mem_append.2 (Or.inr (by unfold NZ.base; simp)))))
      rw [HVT.out, ← HNT.out] at tL
      rw [HVWT.out, HNWT.out] at tW
      have dL := tail_cell tL (j := k) (u := x.d) (by rw [List.getElem?_map, hx]; rfl)
      have dW := tail_cell tW (j := k) (u := y.d) (by rw [List.getElem?_map, hy]; rfl)
      have rx : World.ownsRow wr a.S0 9 1 x.d x.ss.length (flatS x.ss) := HS.out.h.all (dsE a.S0 x) (List.mem_append.2 (Or.inl (List.mem_map.2 ⟨x, List.mem_of_getElem? hx, rfl⟩)))
      have ry : World.ownsRow wr a.S0 9 1 y.d y.ss.length (flatS y.ss) := HS.out.h.all (dsE a.S0 y) (List.mem_append.2 (Or.inr (List.mem_append.2 (Or.inr (by unfold NZ.base; simp only [List.mem_append, List.mem_map]; exact Or.inr (Or.inr (Or.inl ⟨y, List.mem_of_getElem? hy, rfl⟩)))))))
      have hsm : ∀ wz, Below wr.heap.size wr wz → Calls Try.prog 44 #[x.d, y.d] wz fun e w' => e = .returned (.bool true) ∧ Below wz.heap.size wz w' := fun wz hb => by
        have := sameT_any (w := wz) (ownsRow_same rx (fun g e => hb.block g (ownsRow_lt rx e).2)) (ownsRow_same ry (fun g e => hb.block g (ownsRow_lt ry e).2)) (by omega)
        rwa [show decide (x.ss = y.ss) = true from decide_eq_true hxy.symm] at this
      have HSM : Hid _ := hsm
      obtain ⟨xd, hxd⟩ : ∃ xd, xd = x.d := ⟨_, rfl⟩
      obtain ⟨yd, hyd⟩ : ∃ yd, yd = y.d := ⟨_, rfl⟩
      rw [← hxd] at dL HSM
      rw [← hyd] at dW HSM
      clear tL tW rx ry hsm hx hy hxy hxl hxd hyd
      go_wp2_with fail
      rename_i K hK
      try rw [show ∀ a : Act, a.put none undef = a from fun _ => rfl]
      refine wp_region_mix (fun wz => Below wr.heap.size wr wz) (fun i => i == 14 || i == 99) 99 (by kernel_rfl) rfl (by kernel_rfl) (by kernel_rfl) (by kernel_rfl) ?_
      refine withFrP (N := 356) rfl ?_
      intro f0 F0 hff
      have e0 : f0 0 = Value.pointer (some ⟨a.pb, 0, none⟩) := hff 0
      have e3 : f0 3 = Value.int .i64 ((k : Nat) : Int) := hff 3
      clear hff
      have HCC : (fun wz => Below wr.heap.size wr wz) (({ wr with drawn := wr.drawn + 1 } : World)) := Below.drew (Below.refl _ _)
      have K7 : ∀ wz, Below wr.heap.size wr wz → wz.cell? ⟨a.pb, 7, none⟩ = some (.slice (some ⟨gT, oT, none⟩) nt cT) := fun wz h => (h.cell (p := ⟨a.pb, 7, none⟩) (World.block_lt_of_cell? wr _ c7)).trans c7
      have K8 : ∀ wz, Below wr.heap.size wr wz → wz.cell? ⟨a.pb, 8, none⟩ = some (.slice (some ⟨gWT, oWT, none⟩) nt cWT) := fun wz h => (h.cell (p := ⟨a.pb, 8, none⟩) (World.block_lt_of_cell? wr _ c8)).trans c8
      have KL0 : ∀ wz, Below wr.heap.size wr wz → wz.cell? ⟨gT, oT + k, none⟩ = some xd := fun wz h => (h.cell (p := ⟨gT, oT + k, none⟩) (World.block_lt_of_cell? wr _ dL)).trans dL
      have KW0 : ∀ wz, Below wr.heap.size wr wz → wz.cell? ⟨gWT, oWT + k, none⟩ = some yd := fun wz h => (h.cell (p := ⟨gWT, oWT + k, none⟩) (World.block_lt_of_cell? wr _ dW)).trans dW
      refine lyp F0 rfl HCC rfl (by omega) (wanted_none rfl) (v := Value.pointer (some ⟨a.pb, 0, none⟩)) (fun wr hwr => by simp only [execOp, (F0.eval 0 (by omega)).trans (show _ = Value.pointer (some ⟨a.pb, 0, none⟩) from by simp [upd, e0, e3])]; first | rfl | simp [go_sem]) fun Fp1 => ?_
      refine lyp Fp1 rfl HCC rfl (by omega) (wanted_none rfl) (v := Value.pointer (some ⟨a.pb, 0, none⟩)) (fun wr hwr => by simp only [execOp, (Fp1.eval 33 (by omega)).trans (show _ = Value.pointer (some ⟨a.pb, 0, none⟩) from by simp [upd, e0, e3])]; simp [go_sem]) fun Fp2 => ?_
      refine lyp Fp2 rfl HCC rfl (by omega) (wanted_none rfl) (v := Value.pointer (some ⟨a.pb, 7, none⟩)) (fun wr hwr => by simp only [execOp, (Fp2.eval 34 (by omega)).trans (show _ = Value.pointer (some ⟨a.pb, 0, none⟩) from by simp [upd, e0, e3])]; simp [go_sem]) fun Fp3 => ?_
      refine lyp Fp3 rfl HCC rfl (by omega) (wanted_none rfl) (v := Value.slice (some ⟨gT, oT, none⟩) nt cT) (fun wr hwr => by simp only [execOp, (Fp3.eval 35 (by omega)).trans (show _ = Value.pointer (some ⟨a.pb, 7, none⟩) from by simp [upd, e0, e3])]; simp [go_sem, K7 wr hwr]) fun Fp4 => ?_
      refine lyp Fp4 rfl HCC rfl (by omega) (wanted_none rfl) (v := Value.int .i64 ((k : Nat) : Int)) (fun wr hwr => by simp only [execOp, (Fp4.eval 3 (by omega)).trans (show _ = Value.int .i64 ((k : Nat) : Int) from by simp [upd, e0, e3])]; first | rfl | simp [go_sem]) fun Fp5 => ?_
      refine lyp Fp5 rfl HCC rfl (by omega) (wanted_none rfl) (v := Value.pointer (some ⟨gT, oT + k, none⟩)) (fun wr hwr => by simp only [execOp, (Fp5.eval 36 (by omega)).trans (show _ = Value.slice (some ⟨gT, oT, none⟩) nt cT from by simp [upd, e0, e3]), (Fp5.eval 37 (by omega)).trans (show _ = Value.int .i64 ((k : Nat) : Int) from by simp [upd, e0, e3])]; simp only [Sem.run_bind, Sem.run_pure, Result.andThen_ok, idx_run 63 51 1 Try.underlying63 isz51 wr gT oT nt cT k hlt, Nat.zero_add, Nat.mul_one]; try rfl) fun Fp6 => ?_
      refine lyp Fp6 rfl HCC rfl (by omega) (wanted_none rfl) (v := xd) (fun wr hwr => by simp only [execOp, (Fp6.eval 38 (by omega)).trans (show _ = Value.pointer (some ⟨gT, oT + k, none⟩) from by simp [upd, e0, e3])]; simp [go_sem, KL0 wr hwr]) fun Fp7 => ?_
      refine lyp Fp7 rfl HCC rfl (by omega) (wanted_none rfl) (v := Value.pointer (some ⟨a.pb, 0, none⟩)) (fun wr hwr => by simp only [execOp, (Fp7.eval 0 (by omega)).trans (show _ = Value.pointer (some ⟨a.pb, 0, none⟩) from by simp [upd, e0, e3])]; first | rfl | simp [go_sem]) fun Fp8 => ?_
      refine lyp Fp8 rfl HCC rfl (by omega) (wanted_none rfl) (v := Value.pointer (some ⟨a.pb, 0, none⟩)) (fun wr hwr => by simp only [execOp, (Fp8.eval 40 (by omega)).trans (show _ = Value.pointer (some ⟨a.pb, 0, none⟩) from by simp [upd, e0, e3])]; simp [go_sem]) fun Fp9 => ?_
      refine lyp Fp9 rfl HCC rfl (by omega) (wanted_none rfl) (v := Value.pointer (some ⟨a.pb, 8, none⟩)) (fun wr hwr => by simp only [execOp, (Fp9.eval 41 (by omega)).trans (show _ = Value.pointer (some ⟨a.pb, 0, none⟩) from by simp [upd, e0, e3])]; simp [go_sem]) fun Fp10 => ?_
      refine lyp Fp10 rfl HCC rfl (by omega) (wanted_none rfl) (v := Value.slice (some ⟨gWT, oWT, none⟩) nt cWT) (fun wr hwr => by simp only [execOp, (Fp10.eval 42 (by omega)).trans (show _ = Value.pointer (some ⟨a.pb, 8, none⟩) from by simp [upd, e0, e3])]; simp [go_sem, K8 wr hwr]) fun Fp11 => ?_
      refine lyp Fp11 rfl HCC rfl (by omega) (wanted_none rfl) (v := Value.int .i64 ((k : Nat) : Int)) (fun wr hwr => by simp only [execOp, (Fp11.eval 3 (by omega)).trans (show _ = Value.int .i64 ((k : Nat) : Int) from by simp [upd, e0, e3])]; first | rfl | simp [go_sem]) fun Fp12 => ?_
      refine lyp Fp12 rfl HCC rfl (by omega) (wanted_none rfl) (v := Value.pointer (some ⟨gWT, oWT + k, none⟩)) (fun wr hwr => by simp only [execOp, (Fp12.eval 43 (by omega)).trans (show _ = Value.slice (some ⟨gWT, oWT, none⟩) nt cWT from by simp [upd, e0, e3]), (Fp12.eval 44 (by omega)).trans (show _ = Value.int .i64 ((k : Nat) : Int) from by simp [upd, e0, e3])]; simp only [Sem.run_bind, Sem.run_pure, Result.andThen_ok, idx_run 63 51 1 Try.underlying63 isz51 wr gWT oWT nt cWT k hlt, Nat.zero_add, Nat.mul_one]; try rfl) fun Fp13 => ?_
      refine lyp Fp13 rfl HCC rfl (by omega) (wanted_none rfl) (v := yd) (fun wr hwr => by simp only [execOp, (Fp13.eval 45 (by omega)).trans (show _ = Value.pointer (some ⟨gWT, oWT + k, none⟩) from by simp [upd, e0, e3])]; simp [go_sem, KW0 wr hwr]) fun Fp14 => ?_
      refine lcp Fp14 rfl HCC rfl (by omega) (wanted_none rfl) (g := 44) (args := #[xd, yd]) (by simp only [execOp, resolve, invoke, List.map_toArray, List.map_cons, List.map_nil, (Fp14.eval 39 (by omega)).trans (show _ = xd from by simp [upd, e0, e3]), (Fp14.eval 46 (by omega)).trans (show _ = yd from by simp [upd, e0, e3])]; simp [go_sem, Act.eval]) (HSM.out (({ wr with drawn := wr.drawn + 1 } : World)) HCC) ?_
      rintro e w6 ⟨rfl, hb6⟩
      refine ⟨_, rfl, fun Fp15 => ?_⟩
      replace hb6 : Below wr.heap.size wr w6 := (Below.drew (Below.refl wr.heap.size wr)).trans hb6
      have HC6 : (fun wz => Below wr.heap.size wr wz) w6 := hb6
      refine lyp Fp15 rfl HC6 rfl (by omega) (wanted_none rfl) (v := Value.bool false) (fun wr hwr => by simp only [execOp, (Fp15.eval 47 (by omega)).trans (show _ = Value.bool true from by simp [upd, e0, e3])]; simp [go_sem, Act.eval]) fun Fp16 => ?_
      refine ⟨fun _ => HC6, ?_⟩
      refine hK _ _ ?_
      clear F0 Fp1 Fp2 Fp3 Fp4 Fp5 Fp6 Fp7 Fp8 Fp9 Fp10 Fp11 Fp12 Fp13 Fp14 Fp15 Fp16 e0 e3 HCC HC6 K7 K8 KL0 KW0
      simp only [Act.put, List.setIfInBounds_toArray, List.set_cons_succ, List.set_cons_zero]
      have HN2 : Hid (AS a kl wl KL WL WL own0 w (z.box a mk) (z.lt.map (dsE a.S0) ++ (z.lc.map (dcE a.S0) ++ z.base a.S0)) w6) := HS.out.more hb6
      clear hb6 HS c7 c8 dL dW HSM
      go_wp2_with fail
      go_roundw
      case rel => exact ⟨k + 1, by omega, by go_num, HN2.out⟩
      case measure => simp [intOf]; omega
    · obtain ⟨W3, hW3⟩ : ∃ W3, W3 = wr := ⟨wr, rfl⟩
      subst hW3
      go_wp2_with fail
      clear c7 c8 hlt hk
      go_loopw [4] (fun s3 wr => ∃ k : Nat, k ≤ nc ∧ s3 = .int .i64 k ∧ AS a kl wl KL WL WL own0 w (z.box a mk) (z.lt.map (dsE a.S0) ++ (z.lc.map (dcE a.S0) ++ z.base a.S0)) wr) (fun s3 _ => nc - (intOf s3).toNat)
      case atStart => exact ⟨0, by omega, rfl, HS.out⟩
      case round =>
        obtain ⟨k, hk, rfl, hS⟩ := hrel
        clear HS
        have HS : Hid (AS a kl wl KL WL WL own0 w (z.box a mk) (z.lt.map (dsE a.S0) ++ (z.lc.map (dcE a.S0) ++ z.base a.S0)) wr) := hS
        have c7 : wr.cell? ⟨a.pb, 9, none⟩ = some (.slice aoC nc cC) := (hS.cell 9).trans (by rw [← HVC.out]; rfl)
        have c8 : wr.cell? ⟨a.pb, 10, none⟩ = some (.slice aoWC nc cWC) := (hS.cell 10).trans (by rw [← HVWC.out]; rfl)
        clear hS
        by_cases hlt : k < nc
        · obtain ⟨x, hx⟩ : ∃ x, z.lc[k]? = some x := ⟨z.lc[k]'(by have := HNC.out; omega), List.getElem?_eq_getElem _⟩
          obtain ⟨y, hy⟩ : ∃ y, z.wc[k]? = some y := ⟨z.wc[k]'(by have := HNWC.out; omega), List.getElem?_eq_getElem _⟩
          have hxy : y.cs = x.cs := by
            have h1 := congrArg (fun q => q[k]?) HF.out.wc1
            simp only [List.getElem?_map, hx, hy, Option.map_some, Option.some.injEq] at h1
            exact h1
          have hxl : x.cs.length ≤ 1000 := HF.out.s2 x (List.mem_append.2 (Or.inr (List.mem_append.2 (Or.inl (List.mem_of_getElem? hx)))))
          have hag := HGC.out (by omega)
          have hagw := HGWC.out (by omega)
          subst hag
          subst hagw
          have tL : Tail wr a.S0 45 z.vlc z.lc.length (z.lc.map DC.d) := HS.out.h.all (z.e6 a.S0) (List.mem_append.2 (Or.inr (List.mem_append.2 (Or.inr (by unfold NZ.base; simp)))))
          have tW : Tail wr a.S0 45 z.vwc z.wc.length (z.wc.map DC.d) := HS.out.h.all (z.e7 a.S0) (List.mem_append.2 (Or.inr (List.mem_append.2 (Or.inr (by unfold NZ.base; simp)))))
          rw [HVC.out, ← HNC.out] at tL
          rw [HVWC.out, HNWC.out] at tW
          have dL := tail_cell tL (j := k) (u := x.d) (by rw [List.getElem?_map, hx]; rfl)
          have dW := tail_cell tW (j := k) (u := y.d) (by rw [List.getElem?_map, hy]; rfl)
          have rx : World.ownsRow wr a.S0 37 2 x.d x.cs.length (flatC x.cs) := HS.out.h.all (dcE a.S0 x) (List.mem_append.2 (Or.inr (List.mem_append.2 (Or.inl (List.mem_map.2 ⟨x, List.mem_of_getElem? hx, rfl⟩)))))
          have ry : World.ownsRow wr a.S0 37 2 y.d y.cs.length (flatC y.cs) := HS.out.h.all (dcE a.S0 y) (List.mem_append.2 (Or.inr (List.mem_append.2 (Or.inr (by unfold NZ.base; simp only [List.mem_append, List.mem_map]; exact Or.inr (Or.inr (Or.inr (Or.inr ⟨y, List.mem_of_getElem? hy, rfl⟩))))))))
          have hsm : ∀ wz, Below wr.heap.size wr wz → Calls Try.prog 45 #[x.d, y.d] wz fun e w' => e = .returned (.bool true) ∧ Below wz.heap.size wz w' := fun wz hb => by
            have := sameC_any (w := wz) (ownsRow_same rx (fun g e => hb.block g (ownsRow_lt rx e).2)) (ownsRow_same ry (fun g e => hb.block g (ownsRow_lt ry e).2)) (by omega)
            rwa [show decide (x.cs = y.cs) = true from decide_eq_true hxy.symm] at this
          have HSM : Hid _ := hsm
          obtain ⟨xd, hxd⟩ : ∃ xd, xd = x.d := ⟨_, rfl⟩
          obtain ⟨yd, hyd⟩ : ∃ yd, yd = y.d := ⟨_, rfl⟩
          rw [← hxd] at dL HSM
          rw [← hyd] at dW HSM
          clear tL tW rx ry hsm hx hy hxy hxl hxd hyd
          go_wp2_with fail
          rename_i K hK
          try rw [show ∀ a : Act, a.put none undef = a from fun _ => rfl]
          refine wp_region_mix (fun wz => Below wr.heap.size wr wz) (fun i => i == 14 || i == 99) 99 (by kernel_rfl) rfl (by kernel_rfl) (by kernel_rfl) (by kernel_rfl) ?_
          refine withFrP (N := 356) rfl ?_
          intro f0 F0 hff
          have e0 : f0 0 = Value.pointer (some ⟨a.pb, 0, none⟩) := hff 0
          have e4 : f0 4 = Value.int .i64 ((k : Nat) : Int) := hff 4
          clear hff
          have HCC : (fun wz => Below wr.heap.size wr wz) (({ wr with drawn := wr.drawn + 1 } : World)) := Below.drew (Below.refl _ _)
          have K7 : ∀ wz, Below wr.heap.size wr wz → wz.cell? ⟨a.pb, 9, none⟩ = some (.slice (some ⟨gC, oC, none⟩) nc cC) := fun wz h => (h.cell (p := ⟨a.pb, 9, none⟩) (World.block_lt_of_cell? wr _ c7)).trans c7
          have K8 : ∀ wz, Below wr.heap.size wr wz → wz.cell? ⟨a.pb, 10, none⟩ = some (.slice (some ⟨gWC, oWC, none⟩) nc cWC) := fun wz h => (h.cell (p := ⟨a.pb, 10, none⟩) (World.block_lt_of_cell? wr _ c8)).trans c8
          have KL0 : ∀ wz, Below wr.heap.size wr wz → wz.cell? ⟨gC, oC + k, none⟩ = some xd := fun wz h => (h.cell (p := ⟨gC, oC + k, none⟩) (World.block_lt_of_cell? wr _ dL)).trans dL
          have KW0 : ∀ wz, Below wr.heap.size wr wz → wz.cell? ⟨gWC, oWC + k, none⟩ = some yd := fun wz h => (h.cell (p := ⟨gWC, oWC + k, none⟩) (World.block_lt_of_cell? wr _ dW)).trans dW
          refine lyp F0 rfl HCC rfl (by omega) (wanted_none rfl) (v := Value.pointer (some ⟨a.pb, 0, none⟩)) (fun wr hwr => by simp only [execOp, (F0.eval 0 (by omega)).trans (show _ = Value.pointer (some ⟨a.pb, 0, none⟩) from by simp [upd, e0, e4])]; first | rfl | simp [go_sem]) fun Fp1 => ?_
          refine lyp Fp1 rfl HCC rfl (by omega) (wanted_none rfl) (v := Value.pointer (some ⟨a.pb, 0, none⟩)) (fun wr hwr => by simp only [execOp, (Fp1.eval 58 (by omega)).trans (show _ = Value.pointer (some ⟨a.pb, 0, none⟩) from by simp [upd, e0, e4])]; simp [go_sem]) fun Fp2 => ?_
          refine lyp Fp2 rfl HCC rfl (by omega) (wanted_none rfl) (v := Value.pointer (some ⟨a.pb, 9, none⟩)) (fun wr hwr => by simp only [execOp, (Fp2.eval 59 (by omega)).trans (show _ = Value.pointer (some ⟨a.pb, 0, none⟩) from by simp [upd, e0, e4])]; simp [go_sem]) fun Fp3 => ?_
          refine lyp Fp3 rfl HCC rfl (by omega) (wanted_none rfl) (v := Value.slice (some ⟨gC, oC, none⟩) nc cC) (fun wr hwr => by simp only [execOp, (Fp3.eval 60 (by omega)).trans (show _ = Value.pointer (some ⟨a.pb, 9, none⟩) from by simp [upd, e0, e4])]; simp [go_sem, K7 wr hwr]) fun Fp4 => ?_
          refine lyp Fp4 rfl HCC rfl (by omega) (wanted_none rfl) (v := Value.int .i64 ((k : Nat) : Int)) (fun wr hwr => by simp only [execOp, (Fp4.eval 4 (by omega)).trans (show _ = Value.int .i64 ((k : Nat) : Int) from by simp [upd, e0, e4])]; first | rfl | simp [go_sem]) fun Fp5 => ?_
          refine lyp Fp5 rfl HCC rfl (by omega) (wanted_none rfl) (v := Value.pointer (some ⟨gC, oC + k, none⟩)) (fun wr hwr => by simp only [execOp, (Fp5.eval 61 (by omega)).trans (show _ = Value.slice (some ⟨gC, oC, none⟩) nc cC from by simp [upd, e0, e4]), (Fp5.eval 62 (by omega)).trans (show _ = Value.int .i64 ((k : Nat) : Int) from by simp [upd, e0, e4])]; simp only [Sem.run_bind, Sem.run_pure, Result.andThen_ok, idx_run 64 45 1 Try.underlying64 isz45 wr gC oC nc cC k hlt, Nat.zero_add, Nat.mul_one]; try rfl) fun Fp6 => ?_
          refine lyp Fp6 rfl HCC rfl (by omega) (wanted_none rfl) (v := xd) (fun wr hwr => by simp only [execOp, (Fp6.eval 63 (by omega)).trans (show _ = Value.pointer (some ⟨gC, oC + k, none⟩) from by simp [upd, e0, e4])]; simp [go_sem, KL0 wr hwr]) fun Fp7 => ?_
          refine lyp Fp7 rfl HCC rfl (by omega) (wanted_none rfl) (v := Value.pointer (some ⟨a.pb, 0, none⟩)) (fun wr hwr => by simp only [execOp, (Fp7.eval 0 (by omega)).trans (show _ = Value.pointer (some ⟨a.pb, 0, none⟩) from by simp [upd, e0, e4])]; first | rfl | simp [go_sem]) fun Fp8 => ?_
          refine lyp Fp8 rfl HCC rfl (by omega) (wanted_none rfl) (v := Value.pointer (some ⟨a.pb, 0, none⟩)) (fun wr hwr => by simp only [execOp, (Fp8.eval 65 (by omega)).trans (show _ = Value.pointer (some ⟨a.pb, 0, none⟩) from by simp [upd, e0, e4])]; simp [go_sem]) fun Fp9 => ?_
          refine lyp Fp9 rfl HCC rfl (by omega) (wanted_none rfl) (v := Value.pointer (some ⟨a.pb, 10, none⟩)) (fun wr hwr => by simp only [execOp, (Fp9.eval 66 (by omega)).trans (show _ = Value.pointer (some ⟨a.pb, 0, none⟩) from by simp [upd, e0, e4])]; simp [go_sem]) fun Fp10 => ?_
          refine lyp Fp10 rfl HCC rfl (by omega) (wanted_none rfl) (v := Value.slice (some ⟨gWC, oWC, none⟩) nc cWC) (fun wr hwr => by simp only [execOp, (Fp10.eval 67 (by omega)).trans (show _ = Value.pointer (some ⟨a.pb, 10, none⟩) from by simp [upd, e0, e4])]; simp [go_sem, K8 wr hwr]) fun Fp11 => ?_
          refine lyp Fp11 rfl HCC rfl (by omega) (wanted_none rfl) (v := Value.int .i64 ((k : Nat) : Int)) (fun wr hwr => by simp only [execOp, (Fp11.eval 4 (by omega)).trans (show _ = Value.int .i64 ((k : Nat) : Int) from by simp [upd, e0, e4])]; first | rfl | simp [go_sem]) fun Fp12 => ?_
          refine lyp Fp12 rfl HCC rfl (by omega) (wanted_none rfl) (v := Value.pointer (some ⟨gWC, oWC + k, none⟩)) (fun wr hwr => by simp only [execOp, (Fp12.eval 68 (by omega)).trans (show _ = Value.slice (some ⟨gWC, oWC, none⟩) nc cWC from by simp [upd, e0, e4]), (Fp12.eval 69 (by omega)).trans (show _ = Value.int .i64 ((k : Nat) : Int) from by simp [upd, e0, e4])]; simp only [Sem.run_bind, Sem.run_pure, Result.andThen_ok, idx_run 64 45 1 Try.underlying64 isz45 wr gWC oWC nc cWC k hlt, Nat.zero_add, Nat.mul_one]; try rfl) fun Fp13 => ?_
          refine lyp Fp13 rfl HCC rfl (by omega) (wanted_none rfl) (v := yd) (fun wr hwr => by simp only [execOp, (Fp13.eval 70 (by omega)).trans (show _ = Value.pointer (some ⟨gWC, oWC + k, none⟩) from by simp [upd, e0, e4])]; simp [go_sem, KW0 wr hwr]) fun Fp14 => ?_
          refine lcp Fp14 rfl HCC rfl (by omega) (wanted_none rfl) (g := 45) (args := #[xd, yd]) (by simp only [execOp, resolve, invoke, List.map_toArray, List.map_cons, List.map_nil, (Fp14.eval 64 (by omega)).trans (show _ = xd from by simp [upd, e0, e4]), (Fp14.eval 71 (by omega)).trans (show _ = yd from by simp [upd, e0, e4])]; simp [go_sem, Act.eval]) (HSM.out (({ wr with drawn := wr.drawn + 1 } : World)) HCC) ?_
          rintro e w6 ⟨rfl, hb6⟩
          refine ⟨_, rfl, fun Fp15 => ?_⟩
          replace hb6 : Below wr.heap.size wr w6 := (Below.drew (Below.refl wr.heap.size wr)).trans hb6
          have HC6 : (fun wz => Below wr.heap.size wr wz) w6 := hb6
          refine lyp Fp15 rfl HC6 rfl (by omega) (wanted_none rfl) (v := Value.bool false) (fun wr hwr => by simp only [execOp, (Fp15.eval 72 (by omega)).trans (show _ = Value.bool true from by simp [upd, e0, e4])]; simp [go_sem, Act.eval]) fun Fp16 => ?_
          refine ⟨fun _ => HC6, ?_⟩
          refine hK _ _ ?_
          clear F0 Fp1 Fp2 Fp3 Fp4 Fp5 Fp6 Fp7 Fp8 Fp9 Fp10 Fp11 Fp12 Fp13 Fp14 Fp15 Fp16 e0 e4 HCC HC6 K7 K8 KL0 KW0
          simp only [Act.put, List.setIfInBounds_toArray, List.set_cons_succ, List.set_cons_zero]
          have HN2 : Hid (AS a kl wl KL WL WL own0 w (z.box a mk) (z.lt.map (dsE a.S0) ++ (z.lc.map (dcE a.S0) ++ z.base a.S0)) w6) := HS.out.more hb6
          clear hb6 HS c7 c8 dL dW HSM
          go_wp2_with fail
          go_roundw
          case rel => exact ⟨k + 1, by omega, by go_num, HN2.out⟩
          case measure => simp [intOf]; omega
        · obtain ⟨W4, hW4⟩ : ∃ W4, W4 = wr := ⟨wr, rfl⟩
          subst hW4
          go_wp2_with fail
          clear c7 c8 hlt hk
          have HS0 : Hid (AS a kl wl KL WL WL own0 w (z.box a mk) (([] : List (Ent a.S0)) ++ ((inkd inkT z.lt 0).map (dsE a.S0) ++ (z.lc.map (dcE a.S0) ++ z.base a.S0))) W4) := show AS a kl wl KL WL WL own0 w (z.box a mk) (([] : List (Ent a.S0)) ++ ((inkd inkT z.lt 0).map (dsE a.S0) ++ (z.lc.map (dcE a.S0) ++ z.base a.S0))) W4 from by rw [inkd_0]; exact HS.out
          clear HS
          go_loopw [5, 6] (fun s3 _ wr => ∃ k : Nat, k ≤ nt ∧ s3 = .int .i64 k ∧ AS a kl wl KL WL WL own0 w (z.box a mk) (([] : List (Ent a.S0)) ++ ((inkd inkT z.lt k).map (dsE a.S0) ++ (z.lc.map (dcE a.S0) ++ z.base a.S0))) wr) (fun s3 _ _ => nt - (intOf s3).toNat)
          case atStart => exact ⟨0, by omega, rfl, HS0.out⟩
          case round =>
            obtain ⟨k, hk, rfl, hS⟩ := hrel
            clear HS0
            have HS : Hid (AS a kl wl KL WL WL own0 w (z.box a mk) (([] : List (Ent a.S0)) ++ ((inkd inkT z.lt k).map (dsE a.S0) ++ (z.lc.map (dcE a.S0) ++ z.base a.S0))) wr) := hS
            have c7 : wr.cell? ⟨a.pb, 7, none⟩ = some (.slice aoT nt cT) := (hS.cell 7).trans (by rw [← HVT.out]; rfl)
            clear hS
            by_cases hlt : k < nt
            · obtain ⟨x, hx⟩ : ∃ x, z.lt[k]? = some x := ⟨z.lt[k]'(by have := HNT.out; omega), List.getElem?_eq_getElem _⟩
              have hxl : x.ss.length ≤ 1000 := HF.out.s1 x (List.mem_append.2 (Or.inr (List.mem_append.2 (Or.inl (List.mem_of_getElem? hx)))))
              have hag := HGT.out (by omega)
              subst hag
              have HX : Hid (z.lt[k]? = some x) := hx
              obtain ⟨xd, ys⟩ := x
              simp only at hxl
              have hsp := split_at (inkd_at (f := inkT) hx)
              obtain ⟨A, hA⟩ : ∃ A, A = (inkd inkT z.lt k).take k := ⟨_, rfl⟩
              obtain ⟨Bl, hBl⟩ : ∃ Bl, Bl = (inkd inkT z.lt k).drop (k + 1) := ⟨_, rfl⟩
              rw [← hA, ← hBl] at hsp
              have hstep : A ++ inkT k ⟨xd, ys⟩ :: Bl = inkd inkT z.lt (k + 1) := by rw [hA, hBl]; exact inkd_step hx
              have hS1 := HS.out
              rw [hsp, List.map_append, List.map_cons, List.append_assoc, List.cons_append] at hS1
              have rx : World.ownsRow wr a.S0 9 1 xd ys.length (flatS ys) := hS1.h.all (dsE a.S0 ⟨xd, ys⟩) (by simp)
              obtain ⟨aox, capx, hxd, hnx⟩ := own_slice rx
              subst hxd
              have hcapx : capx ≤ maxLen := by obtain ⟨_, _, e, _, h, _⟩ := own_read rx; cases e; exact h
              unfold maxLen at hcapx
              obtain ⟨nx, hnx0⟩ : ∃ nx, nx = ys.length := ⟨_, rfl⟩
              rw [← hnx0] at hxl hnx rx
              have HNX : Hid (nx = ys.length) := hnx0
              have HM0 : Hid (AS a kl wl KL WL WL own0 w (z.box a mk) (([] : List (Ent a.S0)) ++ ((A.map (dsE a.S0)) ++ dsE a.S0 ⟨.slice aox nx capx, List.replicate 0 (mkT k) ++ ys.drop 0⟩ :: (Bl.map (dsE a.S0) ++ (z.lc.map (dcE a.S0) ++ z.base a.S0)))) wr) := show AS a kl wl KL WL WL own0 w (z.box a mk) (([] : List (Ent a.S0)) ++ ((A.map (dsE a.S0)) ++ dsE a.S0 ⟨.slice aox nx capx, List.replicate 0 (mkT k) ++ ys.drop 0⟩ :: (Bl.map (dsE a.S0) ++ (z.lc.map (dcE a.S0) ++ z.base a.S0)))) wr from by rw [List.replicate_zero, List.nil_append, List.drop_zero, hnx0]; exact hS1
              have HSTEP : Hid (A ++ inkT k ⟨.slice aox nx capx, ys⟩ :: Bl = inkd inkT z.lt (k + 1)) := show _ = _ from by rw [hnx0]; exact hstep
              have HDL : Hid (∀ wz q, AS a kl wl KL WL WL own0 w (z.box a mk) (([] : List (Ent a.S0)) ++ ((A.map (dsE a.S0)) ++ dsE a.S0 ⟨.slice aox nx capx, List.replicate q (mkT k) ++ ys.drop q⟩ :: (Bl.map (dsE a.S0) ++ (z.lc.map (dcE a.S0) ++ z.base a.S0)))) wz → wz.cell? ⟨gT, oT + k, none⟩ = some (.slice aox nx capx)) := fun wz q hq => by
                have tL : Tail wz a.S0 51 z.vlt z.lt.length (z.lt.map DS.d) := hq.h.all (z.e4 a.S0) (by simp [NZ.base])
                rw [HVT.out, ← HNT.out] at tL
                exact tail_cell tL (j := k) (by rw [List.getElem?_map, HX.out, hnx0]; rfl)
              have HC7 : Hid (∀ wz q, AS a kl wl KL WL WL own0 w (z.box a mk) (([] : List (Ent a.S0)) ++ ((A.map (dsE a.S0)) ++ dsE a.S0 ⟨.slice aox nx capx, List.replicate q (mkT k) ++ ys.drop q⟩ :: (Bl.map (dsE a.S0) ++ (z.lc.map (dcE a.S0) ++ z.base a.S0)))) wz → wz.cell? ⟨a.pb, 7, none⟩ = some (.slice (some ⟨gT, oT, none⟩) nt cT)) := fun wz q hq => (hq.cell 7).trans (by rw [← HVT.out]; rfl)
              clear hsp hstep hS1 rx hx hA hBl hnx0 HS HX
              go_wp2_with fail
              go_loopw [6] (fun s6 wr => ∃ q : Nat, q ≤ nx ∧ s6 = .int .i64 q ∧ AS a kl wl KL WL WL own0 w (z.box a mk) (([] : List (Ent a.S0)) ++ ((A.map (dsE a.S0)) ++ dsE a.S0 ⟨.slice aox nx capx, List.replicate q (mkT k) ++ ys.drop q⟩ :: (Bl.map (dsE a.S0) ++ (z.lc.map (dcE a.S0) ++ z.base a.S0)))) wr) (fun s6 _ => nx - (intOf s6).toNat)
              case atStart => exact ⟨0, by omega, rfl, HM0.out⟩
              case round =>
                obtain ⟨q, hq, rfl, hS⟩ := hrel
                clear HM0
                have d7 := HC7.out wr q hS
                have dL := HDL.out wr q hS
                by_cases hql : q < nx
                · have rx : World.ownsRow wr a.S0 9 1 (.slice aox nx capx) (List.replicate q (mkT k) ++ ys.drop q).length (flatS (List.replicate q (mkT k) ++ ys.drop q)) := hS.h.all (dsE a.S0 ⟨.slice aox nx capx, List.replicate q (mkT k) ++ ys.drop q⟩) (by simp)
                  rw [show (List.replicate q (mkT k) ++ ys.drop q).length = nx from by simp; have := HNX.out; omega] at rx
                  obtain ⟨gx, hgx⟩ : ∃ g, aox = some ⟨g, 0, none⟩ := by
                    obtain ⟨_, _, e, _, _, h⟩ := own_read rx
                    cases e
                    obtain ⟨g, e, _⟩ := h (by omega)
                    exact ⟨g, e⟩
                  subst hgx
                  obtain ⟨b0, hb0⟩ : ∃ b0, b0 = UInt8.ofNat k := ⟨_, rfl⟩
                  obtain ⟨b1, hb1⟩ : ∃ b1, b1 = UInt8.ofNat (k / 256) := ⟨_, rfl⟩
                  have hw0 : IntKind.u8.wrap (k : Int) = (b0.toNat : Int) := by rw [hb0]; exact wrap8 k
                  have hw1 : IntKind.u8.wrap ((k / 256 : Nat) : Int) = (b1.toNat : Int) := by rw [hb1]; exact wrap8 (k / 256)
                  have hw1' : IntKind.u8.wrap ((k : Int) / 256) = (b1.toNat : Int) := by rw [hb1]; exact wrap8' k
                  have HMK : Hid (mkT k = [b0, b1]) := show mkT k = [b0, b1] from by rw [hb0, hb1]; rfl
                  clear hb0 hb1
                  go_wp2_with fail
                  rename_i K hK
                  try rw [show ∀ a : Act, a.put none undef = a from fun _ => rfl]
                  refine wp_region_mix (fun wz => Below wr.heap.size wr wz) (fun i => i == 13 || i == 14 || i == 16) 16 (by kernel_rfl) rfl (by kernel_rfl) (by kernel_rfl) (by kernel_rfl) ?_
                  refine withFrP (N := 356) rfl ?_
                  intro f0 F0 hff
                  have e0 : f0 0 = Value.pointer (some ⟨a.pb, 0, none⟩) := hff 0
                  have e5 : f0 5 = Value.int .i64 ((k : Nat) : Int) := hff 5
                  have e6 : f0 6 = Value.int .i64 ((q : Nat) : Int) := hff 6
                  clear hff
                  have HCC : (fun wz => Below wr.heap.size wr wz) (({ wr with drawn := wr.drawn + 1 } : World)) := Below.drew (Below.refl _ _)
                  have K7 : ∀ wz, Below wr.heap.size wr wz → wz.cell? ⟨a.pb, 7, none⟩ = some (.slice (some ⟨gT, oT, none⟩) nt cT) := fun wz h => (h.cell (p := ⟨a.pb, 7, none⟩) (World.block_lt_of_cell? wr _ d7)).trans d7
                  have KL0 : ∀ wz, Below wr.heap.size wr wz → wz.cell? ⟨gT, oT + k, none⟩ = some (.slice (some ⟨gx, 0, none⟩) nx capx) := fun wz h => (h.cell (p := ⟨gT, oT + k, none⟩) (World.block_lt_of_cell? wr _ dL)).trans dL
                  refine lyp F0 rfl HCC rfl (by omega) (wanted_none rfl) (v := Value.pointer (some ⟨a.pb, 0, none⟩)) (fun wr hwr => by simp only [execOp, (F0.eval 0 (by omega)).trans (show _ = Value.pointer (some ⟨a.pb, 0, none⟩) from by simp [upd, e0, e5, e6])]; first | rfl | simp [go_sem]) fun Fu1 => ?_
                  refine lyp Fu1 rfl HCC rfl (by omega) (wanted_none rfl) (v := Value.pointer (some ⟨a.pb, 0, none⟩)) (fun wr hwr => by simp only [execOp, (Fu1.eval 95 (by omega)).trans (show _ = Value.pointer (some ⟨a.pb, 0, none⟩) from by simp [upd, e0, e5, e6])]; simp [go_sem]) fun Fu2 => ?_
                  refine lyp Fu2 rfl HCC rfl (by omega) (wanted_none rfl) (v := Value.pointer (some ⟨a.pb, 7, none⟩)) (fun wr hwr => by simp only [execOp, (Fu2.eval 96 (by omega)).trans (show _ = Value.pointer (some ⟨a.pb, 0, none⟩) from by simp [upd, e0, e5, e6])]; simp [go_sem]) fun Fu3 => ?_
                  refine lyp Fu3 rfl HCC rfl (by omega) (wanted_none rfl) (v := Value.slice (some ⟨gT, oT, none⟩) nt cT) (fun wr hwr => by simp only [execOp, (Fu3.eval 97 (by omega)).trans (show _ = Value.pointer (some ⟨a.pb, 7, none⟩) from by simp [upd, e0, e5, e6])]; simp [go_sem, K7 wr hwr]) fun Fu4 => ?_
                  refine lyp Fu4 rfl HCC rfl (by omega) (wanted_none rfl) (v := Value.int .i64 ((k : Nat) : Int)) (fun wr hwr => by simp only [execOp, (Fu4.eval 5 (by omega)).trans (show _ = Value.int .i64 ((k : Nat) : Int) from by simp [upd, e0, e5, e6])]; first | rfl | simp [go_sem]) fun Fu5 => ?_
                  refine lyp Fu5 rfl HCC rfl (by omega) (wanted_none rfl) (v := Value.pointer (some ⟨gT, oT + k, none⟩)) (fun wr hwr => by simp only [execOp, (Fu5.eval 98 (by omega)).trans (show _ = Value.slice (some ⟨gT, oT, none⟩) nt cT from by simp [upd, e0, e5, e6]), (Fu5.eval 99 (by omega)).trans (show _ = Value.int .i64 ((k : Nat) : Int) from by simp [upd, e0, e5, e6])]; simp only [Sem.run_bind, Sem.run_pure, Result.andThen_ok, idx_run 63 51 1 Try.underlying63 isz51 wr gT oT nt cT k hlt, Nat.zero_add, Nat.mul_one]; try rfl) fun Fu6 => ?_
                  refine lyp Fu6 rfl HCC rfl (by omega) (wanted_none rfl) (v := Value.slice (some ⟨gx, 0, none⟩) nx capx) (fun wr hwr => by simp only [execOp, (Fu6.eval 100 (by omega)).trans (show _ = Value.pointer (some ⟨gT, oT + k, none⟩) from by simp [upd, e0, e5, e6])]; simp [go_sem, KL0 wr hwr]) fun Fu7 => ?_
                  refine lyp Fu7 rfl HCC rfl (by omega) (wanted_none rfl) (v := Value.int .i64 ((q : Nat) : Int)) (fun wr hwr => by simp only [execOp, (Fu7.eval 6 (by omega)).trans (show _ = Value.int .i64 ((q : Nat) : Int) from by simp [upd, e0, e5, e6])]; first | rfl | simp [go_sem]) fun Fu8 => ?_
                  refine lyp Fu8 rfl HCC rfl (by omega) (wanted_none rfl) (v := Value.int .i64 ((k : Nat) : Int)) (fun wr hwr => by simp only [execOp, (Fu8.eval 5 (by omega)).trans (show _ = Value.int .i64 ((k : Nat) : Int) from by simp [upd, e0, e5, e6])]; first | rfl | simp [go_sem]) fun Fu9 => ?_
                  refine lyp Fu9 rfl HCC rfl (by omega) (wanted_none rfl) (v := Value.int .u8 (b0.toNat : Int)) (fun wr hwr => by simp only [execOp, (Fu9.eval 103 (by omega)).trans (show _ = Value.int .i64 ((k : Nat) : Int) from by simp [upd, e0, e5, e6])]; simp [go_sem, Act.eval, hw0]) fun Fu10 => ?_
                  refine lyp Fu10 rfl HCC rfl (by omega) (wanted_none rfl) (v := Value.int .i64 ((k : Nat) : Int)) (fun wr hwr => by simp only [execOp, (Fu10.eval 5 (by omega)).trans (show _ = Value.int .i64 ((k : Nat) : Int) from by simp [upd, e0, e5, e6])]; first | rfl | simp [go_sem]) fun Fu11 => ?_
                  refine lyp Fu11 rfl HCC rfl (by omega) (wanted_none rfl) (v := Value.int .i64 ((k / 256 : Nat) : Int)) (fun wr hwr => by simp only [execOp, (Fu11.eval 105 (by omega)).trans (show _ = Value.int .i64 ((k : Nat) : Int) from by simp [upd, e0, e5, e6])]; simp [go_sem, Act.eval, quo256 k]; try (rw [IntKind.wrap_i64]; omega)) fun Fu12 => ?_
                  refine lyp Fu12 rfl HCC rfl (by omega) (wanted_none rfl) (v := Value.int .u8 (b1.toNat : Int)) (fun wr hwr => by simp only [execOp, (Fu12.eval 106 (by omega)).trans (show _ = Value.int .i64 ((k / 256 : Nat) : Int) from by simp [upd, e0, e5, e6])]; simp [go_sem, Act.eval, hw1, hw1']) fun Fu13 => ?_
                  have hal : Below wr.heap.size wr ((({ wr with drawn := wr.drawn + 1 } : World)).alloc (.cells #[.int .u8 (b0.toNat : Int), .int .u8 (b1.toNat : Int)] 5)) := (Below.drew (Below.refl wr.heap.size wr)).alloc (Nat.le_refl _) _
                  refine lep Fu13 rfl HCC rfl (by omega) (wanted_none rfl) (v := Value.slice (some ⟨(({ wr with drawn := wr.drawn + 1 } : World)).heap.size, 0, none⟩) 2 2) (w1 := (({ wr with drawn := wr.drawn + 1 } : World)).alloc (.cells #[.int .u8 (b0.toNat : Int), .int .u8 (b1.toNat : Int)] 5)) (by simp only [execOp, List.map_toArray, List.map_cons, List.map_nil, (Fu13.eval 104 (by omega)).trans (show _ = Value.int .u8 (b0.toNat : Int) from by simp [upd, e0, e5, e6]), (Fu13.eval 107 (by omega)).trans (show _ = Value.int .u8 (b1.toNat : Int) from by simp [upd, e0, e5, e6])]; simp [go_sem]) fun Fu14 => ?_
                  have HC6 : (fun wz => Below wr.heap.size wr wz) ((({ wr with drawn := wr.drawn + 1 } : World)).alloc (.cells #[.int .u8 (b0.toNat : Int), .int .u8 (b1.toNat : Int)] 5)) := hal
                  have hcv : (convert 22 9 (.slice (some ⟨(({ wr with drawn := wr.drawn + 1 } : World)).heap.size, 0, none⟩) 2 2)).run Try.prog ((({ wr with drawn := wr.drawn + 1 } : World)).alloc (.cells #[.int .u8 (b0.toNat : Int), .int .u8 (b1.toNat : Int)] 5)) = .ok (.string ⟨(mkT k).toArray⟩) ((({ wr with drawn := wr.drawn + 1 } : World)).alloc (.cells #[.int .u8 (b0.toNat : Int), .int .u8 (b1.toNat : Int)] 5)) := by rw [HMK.out]; exact conv_two (({ wr with drawn := wr.drawn + 1 } : World)) b0 b1
                  refine lep Fu14 rfl HC6 rfl (by omega) (wanted_none rfl) (v := Value.string ⟨(mkT k).toArray⟩) (w1 := (({ wr with drawn := wr.drawn + 1 } : World)).alloc (.cells #[.int .u8 (b0.toNat : Int), .int .u8 (b1.toNat : Int)] 5)) (by simp only [execOp, (Fu14.eval 108 (by omega)).trans (show _ = Value.slice (some ⟨(({ wr with drawn := wr.drawn + 1 } : World)).heap.size, 0, none⟩) 2 2 from by simp [upd, e0, e5, e6])]; simp only [Sem.run_bind, Sem.run_pure, Result.andThen_ok, hcv]; try rfl) fun Fu15 => ?_
                  refine lyp Fu15 rfl HC6 rfl (by omega) (wanted_none rfl) (v := Value.pointer (some ⟨gx, q, none⟩)) (fun wr hwr => by simp only [execOp, (Fu15.eval 101 (by omega)).trans (show _ = Value.slice (some ⟨gx, 0, none⟩) nx capx from by simp [upd, e0, e5, e6]), (Fu15.eval 102 (by omega)).trans (show _ = Value.int .i64 ((q : Nat) : Int) from by simp [upd, e0, e5, e6])]; simp only [Sem.run_bind, Sem.run_pure, Result.andThen_ok, idx_run 51 9 1 Try.underlying51 isz9' wr gx 0 nx capx q hql, Nat.zero_add, Nat.mul_one]; try rfl) fun Fu16 => ?_
                  have hS3 := hS.more hal
                  have rx3 : World.ownsRow ((({ wr with drawn := wr.drawn + 1 } : World)).alloc (.cells #[.int .u8 (b0.toNat : Int), .int .u8 (b1.toNat : Int)] 5)) a.S0 9 1 (.slice (some ⟨gx, 0, none⟩) nx capx) nx (flatS (List.replicate q (mkT k) ++ ys.drop q)) := ownsRow_same rx (fun g e => hal.block g (ownsRow_lt rx e).2)
                  obtain ⟨f1, f2, f3, _, u0, _, f4, _⟩ := fillS rx3 (by have := HNX.out; omega) HNX.out
                  have f3' : (wr.alloc (.cells #[.int .u8 (b0.toNat : Int), .int .u8 (b1.toNat : Int)] 5)).frozen? ⟨gx, q, none⟩ = false := f3
                  have f4' : (wr.alloc (.cells #[.int .u8 (b0.toNat : Int), .int .u8 (b1.toNat : Int)] 5)).cell? ⟨gx, q, none⟩ = some u0 := f4
                  refine lst rfl HC6 rfl (wanted_none rfl) (w1 := ((({ wr with drawn := wr.drawn + 1 } : World)).alloc (.cells #[.int .u8 (b0.toNat : Int), .int .u8 (b1.toNat : Int)] 5)).setCell ⟨gx, q, none⟩ (.string ⟨(mkT k).toArray⟩)) (by simp only [execOp, (Fu16.eval 110 (by omega)).trans (show _ = Value.pointer (some ⟨gx, q, none⟩) from by simp [upd, e0, e5, e6]), (Fu16.eval 109 (by omega)).trans (show _ = Value.string ⟨(mkT k).toArray⟩ from by simp [upd, e0, e5, e6])]; simp [go_sem, f3, f4, f3', f4']) ?_
                  have HN2 : Hid (AS a kl wl KL WL WL own0 w (z.box a mk) (([] : List (Ent a.S0)) ++ ((A.map (dsE a.S0)) ++ dsE a.S0 ⟨.slice (some ⟨gx, 0, none⟩) nx capx, List.replicate (q + 1) (mkT k) ++ ys.drop (q + 1)⟩ :: (Bl.map (dsE a.S0) ++ (z.lc.map (dcE a.S0) ++ z.base a.S0)))) (((({ wr with drawn := wr.drawn + 1 } : World)).alloc (.cells #[.int .u8 (b0.toNat : Int), .int .u8 (b1.toNat : Int)] 5)).setCell ⟨gx, q, none⟩ (.string ⟨(mkT k).toArray⟩))) := AS.mid2 hS3 (e' := dsE a.S0 ⟨.slice (some ⟨gx, 0, none⟩) nx capx, List.replicate (q + 1) (mkT k) ++ ys.drop (q + 1)⟩) f2 (show World.ownsRow _ a.S0 9 1 _ (List.replicate (q + 1) (mkT k) ++ ys.drop (q + 1)).length _ from by rw [show (List.replicate (q + 1) (mkT k) ++ ys.drop (q + 1)).length = nx from by simp; have := HNX.out; omega]; exact f1) (fun k hk => Or.inl hk)
                  refine ⟨fun h => by omega, ?_⟩
                  refine hK _ _ ?_
                  clear F0 Fu1 Fu2 Fu3 Fu4 Fu5 Fu6 Fu7 Fu8 Fu9 Fu10 Fu11 Fu12 Fu13 Fu14 Fu15 Fu16 e0 e5 e6 HCC HC6 K7 KL0 hcv hS3 rx3 f1 f2 f3 f4 f3' f4' hal rx hS d7 dL
                  simp only [Act.put, List.setIfInBounds_toArray, List.set_cons_succ, List.set_cons_zero]
                  go_wp2_with fail
                  go_roundw
                  case rel => exact ⟨q + 1, by omega, by go_num, HN2.out⟩
                  case measure => simp [intOf]; omega
                · obtain rfl : q = nx := by omega
                  have HN2 : Hid (AS a kl wl KL WL WL own0 w (z.box a mk) (([] : List (Ent a.S0)) ++ ((inkd inkT z.lt (k + 1)).map (dsE a.S0) ++ (z.lc.map (dcE a.S0) ++ z.base a.S0))) wr) := show AS a kl wl KL WL WL own0 w (z.box a mk) (([] : List (Ent a.S0)) ++ ((inkd inkT z.lt (k + 1)).map (dsE a.S0) ++ (z.lc.map (dcE a.S0) ++ z.base a.S0))) wr from by
                    have := hS
                    rw [← HSTEP.out, List.map_append, List.map_cons, List.append_assoc, List.cons_append]
                    rwa [show List.replicate q (mkT k) ++ ys.drop q = (inkT k ⟨.slice aox q capx, ys⟩).ss from by rw [List.drop_of_length_le (by have := HNX.out; omega), List.append_nil]; show List.replicate q (mkT k) = List.replicate ys.length (mkT k); rw [← HNX.out]] at this
                  clear hS
                  go_wp2_with fail
                  go_roundw
                  case rel => exact ⟨k + 1, by omega, by go_num, HN2.out⟩
                  case measure => simp [intOf]; omega
            · obtain rfl : nt = k := by omega
              obtain ⟨W5, hW5⟩ : ∃ W5, W5 = wr := ⟨wr, rfl⟩
              subst hW5
              go_wp2_with fail
              clear c7 hlt hk
              have HS0 : Hid (AS a kl wl KL WL WL own0 w (z.box a mk) ((inkd inkT z.lt nt).map (dsE a.S0) ++ ((inkd inkC z.lc 0).map (dcE a.S0) ++ z.base a.S0)) W5) := show AS a kl wl KL WL WL own0 w (z.box a mk) ((inkd inkT z.lt nt).map (dsE a.S0) ++ ((inkd inkC z.lc 0).map (dcE a.S0) ++ z.base a.S0)) W5 from by rw [inkd_0]; exact HS.out
              clear HS
              go_loopw [7, 8] (fun s3 _ wr => ∃ k : Nat, k ≤ nc ∧ s3 = .int .i64 k ∧ AS a kl wl KL WL WL own0 w (z.box a mk) ((inkd inkT z.lt nt).map (dsE a.S0) ++ ((inkd inkC z.lc k).map (dcE a.S0) ++ z.base a.S0)) wr) (fun s3 _ _ => nc - (intOf s3).toNat)
              case atStart => exact ⟨0, by omega, rfl, HS0.out⟩
              case round =>
                obtain ⟨k, hk, rfl, hS⟩ := hrel
                clear HS0
                have HS : Hid (AS a kl wl KL WL WL own0 w (z.box a mk) ((inkd inkT z.lt nt).map (dsE a.S0) ++ ((inkd inkC z.lc k).map (dcE a.S0) ++ z.base a.S0)) wr) := hS
                have c7 : wr.cell? ⟨a.pb, 9, none⟩ = some (.slice aoC nc cC) := (hS.cell 9).trans (by rw [← HVC.out]; rfl)
                clear hS
                by_cases hlt : k < nc
                · obtain ⟨x, hx⟩ : ∃ x, z.lc[k]? = some x := ⟨z.lc[k]'(by have := HNC.out; omega), List.getElem?_eq_getElem _⟩
                  have hxl : x.cs.length ≤ 1000 := HF.out.s2 x (List.mem_append.2 (Or.inr (List.mem_append.2 (Or.inl (List.mem_of_getElem? hx)))))
                  have hag := HGC.out (by omega)
                  subst hag
                  have HX : Hid (z.lc[k]? = some x) := hx
                  obtain ⟨xd, ys⟩ := x
                  simp only at hxl
                  have hsp := split_at (inkd_at (f := inkC) hx)
                  obtain ⟨A, hA⟩ : ∃ A, A = (inkd inkC z.lc k).take k := ⟨_, rfl⟩
                  obtain ⟨Bl, hBl⟩ : ∃ Bl, Bl = (inkd inkC z.lc k).drop (k + 1) := ⟨_, rfl⟩
                  rw [← hA, ← hBl] at hsp
                  have hstep : A ++ inkC k ⟨xd, ys⟩ :: Bl = inkd inkC z.lc (k + 1) := by rw [hA, hBl]; exact inkd_step hx
                  have hS1 := HS.out
                  rw [hsp, List.map_append, List.map_cons, List.append_assoc, List.cons_append] at hS1
                  have rx : World.ownsRow wr a.S0 37 2 xd ys.length (flatC ys) := hS1.h.all (dcE a.S0 ⟨xd, ys⟩) (by simp)
                  obtain ⟨aox, capx, hxd, hnx⟩ := own_slice rx
                  subst hxd
                  have hcapx : capx ≤ maxLen := by obtain ⟨_, _, e, _, h, _⟩ := own_read rx; cases e; exact h
                  unfold maxLen at hcapx
                  obtain ⟨nx, hnx0⟩ : ∃ nx, nx = ys.length := ⟨_, rfl⟩
                  rw [← hnx0] at hxl hnx rx
                  have HNX : Hid (nx = ys.length) := hnx0
                  have HM0 : Hid (AS a kl wl KL WL WL own0 w (z.box a mk) ((inkd inkT z.lt nt).map (dsE a.S0) ++ ((A.map (dcE a.S0)) ++ dcE a.S0 ⟨.slice aox nx capx, List.replicate 0 ((-1 - (k : Int), 0) : Int × Int) ++ ys.drop 0⟩ :: (Bl.map (dcE a.S0) ++ z.base a.S0))) wr) := show AS a kl wl KL WL WL own0 w (z.box a mk) ((inkd inkT z.lt nt).map (dsE a.S0) ++ ((A.map (dcE a.S0)) ++ dcE a.S0 ⟨.slice aox nx capx, List.replicate 0 ((-1 - (k : Int), 0) : Int × Int) ++ ys.drop 0⟩ :: (Bl.map (dcE a.S0) ++ z.base a.S0))) wr from by rw [List.replicate_zero, List.nil_append, List.drop_zero, hnx0]; exact hS1
                  have HSTEP : Hid (A ++ inkC k ⟨.slice aox nx capx, ys⟩ :: Bl = inkd inkC z.lc (k + 1)) := show _ = _ from by rw [hnx0]; exact hstep
                  have HDL : Hid (∀ wz q, AS a kl wl KL WL WL own0 w (z.box a mk) ((inkd inkT z.lt nt).map (dsE a.S0) ++ ((A.map (dcE a.S0)) ++ dcE a.S0 ⟨.slice aox nx capx, List.replicate q ((-1 - (k : Int), 0) : Int × Int) ++ ys.drop q⟩ :: (Bl.map (dcE a.S0) ++ z.base a.S0))) wz → wz.cell? ⟨gC, oC + k, none⟩ = some (.slice aox nx capx)) := fun wz q hq => by
                    have tL : Tail wz a.S0 45 z.vlc z.lc.length (z.lc.map DC.d) := hq.h.all (z.e6 a.S0) (by simp [NZ.base])
                    rw [HVC.out, ← HNC.out] at tL
                    exact tail_cell tL (j := k) (by rw [List.getElem?_map, HX.out, hnx0]; rfl)
                  have HC7 : Hid (∀ wz q, AS a kl wl KL WL WL own0 w (z.box a mk) ((inkd inkT z.lt nt).map (dsE a.S0) ++ ((A.map (dcE a.S0)) ++ dcE a.S0 ⟨.slice aox nx capx, List.replicate q ((-1 - (k : Int), 0) : Int × Int) ++ ys.drop q⟩ :: (Bl.map (dcE a.S0) ++ z.base a.S0))) wz → wz.cell? ⟨a.pb, 9, none⟩ = some (.slice (some ⟨gC, oC, none⟩) nc cC)) := fun wz q hq => (hq.cell 9).trans (by rw [← HVC.out]; rfl)
                  clear hsp hstep hS1 rx hx hA hBl hnx0 HS HX
                  go_wp2_with fail
                  go_loopw [8] (fun s6 wr => ∃ q : Nat, q ≤ nx ∧ s6 = .int .i64 q ∧ AS a kl wl KL WL WL own0 w (z.box a mk) ((inkd inkT z.lt nt).map (dsE a.S0) ++ ((A.map (dcE a.S0)) ++ dcE a.S0 ⟨.slice aox nx capx, List.replicate q ((-1 - (k : Int), 0) : Int × Int) ++ ys.drop q⟩ :: (Bl.map (dcE a.S0) ++ z.base a.S0))) wr) (fun s6 _ => nx - (intOf s6).toNat)
                  case atStart => exact ⟨0, by omega, rfl, HM0.out⟩
                  case round =>
                    obtain ⟨q, hq, rfl, hS⟩ := hrel
                    clear HM0
                    have d7 := HC7.out wr q hS
                    have dL := HDL.out wr q hS
                    by_cases hql : q < nx
                    · have rx : World.ownsRow wr a.S0 37 2 (.slice aox nx capx) (List.replicate q ((-1 - (k : Int), 0) : Int × Int) ++ ys.drop q).length (flatC (List.replicate q ((-1 - (k : Int), 0) : Int × Int) ++ ys.drop q)) := hS.h.all (dcE a.S0 ⟨.slice aox nx capx, List.replicate q ((-1 - (k : Int), 0) : Int × Int) ++ ys.drop q⟩) (by simp)
                      rw [show (List.replicate q ((-1 - (k : Int), 0) : Int × Int) ++ ys.drop q).length = nx from by simp; have := HNX.out; omega] at rx
                      obtain ⟨gx, hgx⟩ : ∃ g, aox = some ⟨g, 0, none⟩ := by
                        obtain ⟨_, _, e, _, _, h⟩ := own_read rx
                        cases e
                        obtain ⟨g, e, _⟩ := h (by omega)
                        exact ⟨g, e⟩
                      subst hgx
                      obtain ⟨f1, f2, f3, f3', u0, u1, f4, f5⟩ := fillC rx (by have := HNX.out; omega) HNX.out
                      have HN2 : Hid (AS a kl wl KL WL WL own0 w (z.box a mk) ((inkd inkT z.lt nt).map (dsE a.S0) ++ ((A.map (dcE a.S0)) ++ dcE a.S0 ⟨.slice (some ⟨gx, 0, none⟩) nx capx, List.replicate (q + 1) ((-1 - (k : Int), 0) : Int × Int) ++ ys.drop (q + 1)⟩ :: (Bl.map (dcE a.S0) ++ z.base a.S0))) ((wr.setCell ⟨gx, q * 2, none⟩ (.int .i64 (-1 - (k : Int)))).setCell ⟨gx, q * 2 + 1, none⟩ (.int .i64 0))) := AS.mid2 hS (e' := dcE a.S0 ⟨.slice (some ⟨gx, 0, none⟩) nx capx, List.replicate (q + 1) ((-1 - (k : Int), 0) : Int × Int) ++ ys.drop (q + 1)⟩) f2 (show World.ownsRow _ a.S0 37 2 _ (List.replicate (q + 1) ((-1 - (k : Int), 0) : Int × Int) ++ ys.drop (q + 1)).length _ from by rw [show (List.replicate (q + 1) ((-1 - (k : Int), 0) : Int × Int) ++ ys.drop (q + 1)).length = nx from by simp; have := HNX.out; omega]; exact f1) (fun k hk => Or.inl hk)
                      have hwk : IntKind.i64.wrap (-1 - (k : Int)) = -1 - (k : Int) := by rw [IntKind.wrap_i64]; omega
                      simp only at f3' f5
                      clear f1 f2 rx hS
                      go_wp2_with fail
                      go_roundw
                      case rel => exact ⟨q + 1, by omega, by go_num, HN2.out⟩
                      case measure => simp [intOf]; omega
                    · obtain rfl : q = nx := by omega
                      have HN2 : Hid (AS a kl wl KL WL WL own0 w (z.box a mk) ((inkd inkT z.lt nt).map (dsE a.S0) ++ ((inkd inkC z.lc (k + 1)).map (dcE a.S0) ++ z.base a.S0)) wr) := show AS a kl wl KL WL WL own0 w (z.box a mk) ((inkd inkT z.lt nt).map (dsE a.S0) ++ ((inkd inkC z.lc (k + 1)).map (dcE a.S0) ++ z.base a.S0)) wr from by
                        have := hS
                        rw [← HSTEP.out, List.map_append, List.map_cons, List.append_assoc, List.cons_append]
                        rwa [show List.replicate q ((-1 - (k : Int), 0) : Int × Int) ++ ys.drop q = (inkC k ⟨.slice aox q capx, ys⟩).cs from by rw [List.drop_of_length_le (by have := HNX.out; omega), List.append_nil]; show List.replicate q ((-1 - (k : Int), 0) : Int × Int) = List.replicate ys.length ((-1 - (k : Int), 0) : Int × Int); rw [← HNX.out]] at this
                      clear hS
                      go_wp2_with fail
                      go_roundw
                      case rel => exact ⟨k + 1, by omega, by go_num, HN2.out⟩
                      case measure => simp [intOf]; omega
                · obtain rfl : nc = k := by omega
                  obtain ⟨W7, hW7⟩ : ∃ W7, W7 = wr := ⟨wr, rfl⟩
                  subst hW7
                  go_wp2_with fail
                  clear c7 hlt hk
                  have HS0 : Hid (AS a kl wl KL WL WL own0 w (z.box a mk) (tailE a.S0 51 ts51 (.slice none 0 0) 0 (([] : List DS).map DS.d) :: (([] : List (Ent a.S0)) ++ (plS a.S0 (inkd inkT z.lt nt) ([] : List DS) ++ ((inkd inkC z.lc nc).map (dcE a.S0) ++ z.base a.S0)))) W7) := show AS a kl wl KL WL WL own0 w (z.box a mk) _ W7 from by
                    have h0 := HS.out
                    rw [← plS_nil] at h0
                    exact h0.add (e := tailE a.S0 51 ts51 (.slice none 0 0) 0 []) (tail_nil _ _ _) (fun k hk => by cases hk)
                  clear HS
                  go_loopw [9, 11, 12, 13] (fun s9 s3 _ _ wr => ∃ v9, v9 = s9 ∧ ∃ k : Nat, k ≤ nt ∧ s3 = .int .i64 k ∧ ∃ fs : List DS, fs.length = k ∧ (∀ (i : Nat) (f : DS) (x : DS), fs[i]? = some f → (inkd inkT z.lt nt)[i]? = some x → f.ss = x.ss ++ List.replicate 100 (43 :: mkT i)) ∧ AS a kl wl KL WL WL own0 w (z.box a mk) (tailE a.S0 51 ts51 v9 k (fs.map DS.d) :: (([] : List (Ent a.S0)) ++ (plS a.S0 (inkd inkT z.lt nt) fs ++ ((inkd inkC z.lc nc).map (dcE a.S0) ++ z.base a.S0)))) wr) (fun _ s3 _ _ _ => nt - (intOf s3).toNat)
                  case atStart => exact ⟨_, rfl, 0, by omega, rfl, [], rfl, (fun i f x h => by simp at h), HS0.out⟩
                  case round =>
                    obtain ⟨v9, rfl, k, hk, rfl, fs, hfl, hfar, hS⟩ := hrel
                    clear HS0
                    have HS : Hid (AS a kl wl KL WL WL own0 w (z.box a mk) (tailE a.S0 51 ts51 v9 k (fs.map DS.d) :: (([] : List (Ent a.S0)) ++ (plS a.S0 (inkd inkT z.lt nt) fs ++ ((inkd inkC z.lc nc).map (dcE a.S0) ++ z.base a.S0)))) wr) := hS
                    have HFL : Hid (fs.length = k) := hfl
                    have HFAR : Hid ((∀ (i : Nat) (f : DS) (x : DS), fs[i]? = some f → (inkd inkT z.lt nt)[i]? = some x → f.ss = x.ss ++ List.replicate 100 (43 :: mkT i))) := hfar
                    have c7 : wr.cell? ⟨a.pb, 7, none⟩ = some (.slice aoT nt cT) := (hS.cell 7).trans (by rw [← HVT.out]; rfl)
                    have hT9 : Tail wr a.S0 51 v9 k (fs.map DS.d) := hS.h.all _ (List.mem_cons_self ..)
                    obtain ⟨ao9, cap9, hv9, hc9, _⟩ := tail_form hT9
                    clear hfl hfar
                    by_cases hlt : k < nt
                    · have hxk : k < (inkd inkT z.lt nt).length := by rw [inkd_len]; have := HNT.out; omega
                      obtain ⟨x, hx⟩ : ∃ x, (inkd inkT z.lt nt)[k]? = some x := ⟨(inkd inkT z.lt nt)[k]'hxk, List.getElem?_eq_getElem _⟩
                      obtain ⟨x0, hx0⟩ : ∃ x, z.lt[k]? = some x := ⟨z.lt[k]'(by have := HNT.out; omega), List.getElem?_eq_getElem _⟩
                      have hxx : x = inkT k x0 := by
                        have := inkd_all (f := inkT) hx0 hlt
                        rw [hx] at this
                        exact Option.some.inj this
                      have hxd : x.d = x0.d := by rw [hxx]; rfl
                      have hxl : x.ss.length ≤ 1000 := by
                        rw [hxx]
                        show (List.replicate _ _).length ≤ 1000
                        rw [List.length_replicate]
                        exact HF.out.s1 x0 (List.mem_append.2 (Or.inr (List.mem_append.2 (Or.inl (List.mem_of_getElem? hx0)))))
                      have hag := HGT.out (by omega)
                      subst hag
                      have hsp := split_at hx
                      obtain ⟨A, hA⟩ : ∃ A, A = (inkd inkT z.lt nt).take k := ⟨_, rfl⟩
                      obtain ⟨Bl, hBl⟩ : ∃ Bl, Bl = (inkd inkT z.lt nt).drop (k + 1) := ⟨_, rfl⟩
                      rw [← hA, ← hBl] at hsp
                      have hAl : fs.length = A.length := by rw [HFL.out, hA, List.length_take]; omega
                      have HSN : Hid (∀ ff, plS a.S0 (inkd inkT z.lt nt) (fs ++ [ff]) = plS a.S0 A fs ++ prS a.S0 x ff :: Bl.map (dsE a.S0)) := fun ff => by rw [hsp]; exact plS_snoc a.S0 A Bl x ff fs hAl
                      have hS1 := HS.out
                      rw [hsp, plS_split a.S0 A Bl x fs hAl, List.append_assoc, List.cons_append] at hS1
                      have rx : World.ownsRow wr a.S0 9 1 x.d x.ss.length (flatS x.ss) := hS1.h.all (dsE a.S0 x) (by simp)
                      have hS2 : AS a kl wl KL WL WL own0 w (z.box a mk) (tailE a.S0 51 ts51 v9 k (fs.map DS.d) :: (([] : List (Ent a.S0)) ++ (plS a.S0 A fs ++ prS a.S0 x x :: (Bl.map (dsE a.S0) ++ ((inkd inkC z.lc nc).map (dcE a.S0) ++ z.base a.S0))))) wr := AS.mid2 (Q := tailE a.S0 51 ts51 v9 k (fs.map DS.d) :: ([] : List (Ent a.S0))) (e' := prS a.S0 x x) hS1 (Chg.refl _ _) ⟨rx, rx⟩ (fun k hk => Or.inl (hk.elim id id))
                      obtain ⟨aox, capx, hxd2, hnx⟩ := own_slice rx
                      have tL : Tail wr a.S0 51 z.vlt z.lt.length (z.lt.map DS.d) := HS.out.h.all (z.e4 a.S0) (by simp [NZ.base])
                      rw [HVT.out, ← HNT.out] at tL
                      have dL := tail_cell tL (j := k) (u := x.d) (by rw [List.getElem?_map, hx0, hxd]; rfl)
                      rw [hxd2] at dL
                      have HM0 : Hid (AS a kl wl KL WL WL own0 w (z.box a mk) (tailE a.S0 51 ts51 v9 k (fs.map DS.d) :: (([] : List (Ent a.S0)) ++ (plS a.S0 A fs ++ prS a.S0 x x :: (Bl.map (dsE a.S0) ++ ((inkd inkC z.lc nc).map (dcE a.S0) ++ z.base a.S0))))) wr) := hS2
                      have HXD : Hid (x.d = .slice aox x.ss.length capx) := hxd2
                      have HXK : Hid ((inkd inkT z.lt nt)[k]? = some x) := hx
                      clear tL hS2 rx hS1 hsp hA hBl hAl hx hx0 hxx hxd hxk hS hT9 hv9 hc9 hxd2
                      go_wp2_with fail
                      go_loopw [12, 13] (fun s12 s13 wr => ∃ j : Nat, j ≤ 100 ∧ s13 = .int .i64 j ∧ ∃ ff : DS, s12 = ff.d ∧ ff.ss = x.ss ++ List.replicate j (43 :: mkT k) ∧ AS a kl wl KL WL WL own0 w (z.box a mk) (tailE a.S0 51 ts51 v9 k (fs.map DS.d) :: (([] : List (Ent a.S0)) ++ (plS a.S0 A fs ++ prS a.S0 x ff :: (Bl.map (dsE a.S0) ++ ((inkd inkC z.lc nc).map (dcE a.S0) ++ z.base a.S0))))) wr) (fun _ s13 _ => 100 - (intOf s13).toNat)
                      case atStart => exact ⟨0, by omega, rfl, x, HXD.out.symm, by simp, HM0.out⟩
                      case round =>
                        obtain ⟨j, hj, rfl, ff, rfl, hff, hS⟩ := hrel
                        clear HM0
                        obtain ⟨fd, fs2⟩ := ff
                        simp only at hff
                        have hP : (prS a.S0 x ⟨fd, fs2⟩).P wr := hS.h.all _ (by simp)
                        have rf : World.ownsRow wr a.S0 9 1 fd fs2.length (flatS fs2) := hP.2
                        have HFL2 : Hid (fs2.length = x.ss.length + j) := show _ = _ from by rw [hff]; simp
                        have hfle : fs2.length ≤ 1100 := by have := HFL2.out; omega
                        obtain ⟨aom, capm, hvm, hcm⟩ := own_slice rf
                        subst hvm
                        have hcapm : capm ≤ maxLen := by obtain ⟨_, _, e, _, h, _⟩ := own_read rf; cases e; exact h
                        unfold maxLen at hcapm
                        by_cases hjl : j < 100
                        · obtain ⟨b0, hb0⟩ : ∃ b0, b0 = UInt8.ofNat k := ⟨_, rfl⟩
                          obtain ⟨b1, hb1⟩ : ∃ b1, b1 = UInt8.ofNat (k / 256) := ⟨_, rfl⟩
                          have hw0 : IntKind.u8.wrap (k : Int) = (b0.toNat : Int) := by rw [hb0]; exact wrap8 k
                          have hw1' : IntKind.u8.wrap ((k : Int) / 256) = (b1.toNat : Int) := by rw [hb1]; exact wrap8' k
                          have hq256' : (k : Int).tdiv 256 = (k : Int) / 256 := Int.tdiv_eq_ediv_of_nonneg (by omega)
                          have HMK : Hid (mkT k = [b0, b1]) := show mkT k = [b0, b1] from by rw [hb0, hb1]; rfl
                          obtain ⟨pm, hpm⟩ : ∃ pm, pm = 43 :: mkT k := ⟨_, rfl⟩
                          have hcv : (convert 22 9 (.slice (some ⟨wr.heap.size, 0, none⟩) 3 3)).run Try.prog (wr.alloc (.cells #[.int .u8 43, .int .u8 (b0.toNat : Int), .int .u8 (b1.toNat : Int)] 5)) = .ok (.string ⟨pm.toArray⟩) (wr.alloc (.cells #[.int .u8 43, .int .u8 (b0.toNat : Int), .int .u8 (b1.toNat : Int)] 5)) := by rw [hpm, HMK.out]; exact conv_three wr b0 b1
                          obtain ⟨X1, hX1⟩ : ∃ X1, X1 = wr.alloc (.cells #[.int .u8 43, .int .u8 (b0.toNat : Int), .int .u8 (b1.toNat : Int)] 5) := ⟨_, rfl⟩
                          have hb1' : Below wr.heap.size wr X1 := by rw [hX1]; exact (Below.refl _ _).alloc (Nat.le_refl _) _
                          obtain ⟨u0, hu0⟩ : ∃ u0 : Int, u0 = (b0.toNat : Int) := ⟨_, rfl⟩
                          obtain ⟨u1, hu1⟩ : ∃ u1 : Int, u1 = (b1.toNat : Int) := ⟨_, rfl⟩
                          obtain ⟨kq, hkq⟩ : ∃ kq : Int, kq = (k : Int) / 256 := ⟨_, rfl⟩
                          rw [← hkq] at hw1' hq256'
                          rw [← hu0] at hw0 hcv hX1
                          rw [← hu1] at hw1' hcv hX1
                          have hwq : IntKind.i64.wrap kq = kq := by rw [hkq, IntKind.wrap_i64]; omega
                          have hal : Below wr.heap.size wr (X1.alloc (.cells #[.string ⟨pm.toArray⟩] 9)) := hb1'.alloc hb1'.size _
                          have hS1 := hS.more hal
                          have rf1 : World.ownsRow (X1.alloc (.cells #[.string ⟨pm.toArray⟩] 9)) a.S0 9 1 (.slice aom fs2.length capm) fs2.length (flatS fs2) := ownsRow_same rf (fun g e => hal.block g (ownsRow_lt rf e).2)
                          obtain ⟨v6, w6, hr6, ho6, hg6, hin6⟩ := app_any (w := X1.alloc (.cells #[.string ⟨pm.toArray⟩] 9)) 51 9 (.string ⟨#[]⟩) 1 16 Try.underlying51 info9 rfl (by decide) (by decide) rf1 ⟨X1.heap.size, 0, none⟩ 1 1 [Value.string ⟨pm.toArray⟩] rfl (fun q u hu => by
                            have hB : Blk (X1.alloc (.cells #[.string ⟨pm.toArray⟩] 9)) X1.heap.size #[Value.string ⟨pm.toArray⟩] 9 := heap_alloc_new X1 _
                            rw [addr_add, Nat.zero_add, hB.cell q]
                            simpa using hu) (fun u hu => by simp at hu; subst hu; rfl) (by omega) (Nat.le_trans HLOW.out hS1.chg.size) 51
                          obtain ⟨ao6, cap6, hv6, _⟩ := own_slice ho6
                          subst hv6
                          have hlen6 : (fs2 ++ [pm]).length = fs2.length + 1 := by simp
                          have hfl6 : flatS (fs2 ++ [pm]) = flatS fs2 ++ [Value.string ⟨pm.toArray⟩] := by simp [flatS, Str]
                          have hN : AS a kl wl KL WL WL own0 w (z.box a mk) (tailE a.S0 51 ts51 v9 k (fs.map DS.d) :: (([] : List (Ent a.S0)) ++ (plS a.S0 A fs ++ prS a.S0 x (⟨.slice ao6 (fs2.length + 1) cap6, fs2 ++ [pm]⟩ : DS) :: (Bl.map (dsE a.S0) ++ ((inkd inkC z.lc nc).map (dcE a.S0) ++ z.base a.S0))))) w6 := grow2_prS (Q := tailE a.S0 51 ts51 v9 k (fs.map DS.d) :: ([] : List (Ent a.S0))) (f := ⟨.slice aom fs2.length capm, fs2⟩) hS1 (by have := HFL2.out; simp only; omega) (show World.ownsRow w6 a.S0 9 1 _ _ _ from by rw [hlen6, hfl6]; exact ho6) hg6 hin6
                          have HNN : Hid _ := hN
                          have HFF : Hid (fs2 ++ [pm] = x.ss ++ List.replicate (j + 1) (43 :: mkT k)) := show _ = _ from by rw [hff, List.append_assoc, List.replicate_succ', hpm]
                          have HR6 : Hid (∀ ty, (Builtin.append_ #[51, 51] ty #[.slice aom fs2.length capm, .slice (some ⟨X1.heap.size, 0, none⟩) 1 1]).run Try.prog (X1.alloc (.cells #[.string ⟨pm.toArray⟩] 9)) = .ok (.slice ao6 (fs2.length + 1) cap6) w6) := fun ty => hr6
                          clear hal hS1 rf1 hr6 ho6 hg6 hin6 hlen6 hfl6 hN hP rf hS hb1' hff hb0 hb1
                          have hsz1 : X1.heap.size = wr.heap.size + 1 := by rw [hX1, World.size_alloc]
                          rw [hsz1, hX1] at HR6
                          clear hsz1
                          clear hX1 hpm HMK hu0 hu1 hkq
                          go_upto_region 33 with (at_builtin; refine wpList_runs rfl _ _ 51 rfl rfl rfl HR6.out ?_)
                          go_wp2_with fail
                          go_roundw
                          case rel => exact ⟨j + 1, by omega, by go_num, ⟨.slice ao6 (fs2.length + 1) cap6, fs2 ++ [pm]⟩, rfl, HFF.out, HNN.out⟩
                          case measure => simp [intOf]; omega
                        · obtain rfl : j = 100 := by omega
                          have hT9 : Tail wr a.S0 51 v9 k (fs.map DS.d) := hS.h.all _ (List.mem_cons_self ..)
                          obtain ⟨ao9, cap9, hv9, _, _⟩ := tail_form hT9
                          obtain ⟨g9, o9, cc9, W9, hrun9, hT9', hc9, hu9⟩ := app_tail 63 51 (.slice none 0 0) 24 Try.underlying63 info51 rfl (by decide) hT9 (.slice aom fs2.length capm) rfl (by omega) (Nat.le_trans HLOW.out hS.chg.size)
                          subst hv9
                          have HN2 : Hid (AS a kl wl KL WL WL own0 w (z.box a mk) (tailE a.S0 51 ts51 (.slice (some ⟨g9, o9, none⟩) (k + 1) cc9) (k + 1) ((fs ++ [(⟨.slice aom fs2.length capm, fs2⟩ : DS)]).map DS.d) :: (([] : List (Ent a.S0)) ++ (plS a.S0 (inkd inkT z.lt nt) (fs ++ [(⟨.slice aom fs2.length capm, fs2⟩ : DS)]) ++ ((inkd inkC z.lc nc).map (dcE a.S0) ++ z.base a.S0)))) W9) := show AS a kl wl KL WL WL own0 w (z.box a mk) _ W9 from by
                            have h1 := hS.swap (e' := tailE a.S0 51 ts51 (.slice (some ⟨g9, o9, none⟩) (k + 1) cc9) (k + 1) ((fs ++ [(⟨.slice aom fs2.length capm, fs2⟩ : DS)]).map DS.d)) hc9 (show Tail W9 a.S0 51 _ _ _ from by rw [List.map_append]; exact hT9') hu9
                            rw [HSN.out, List.append_assoc, List.cons_append]
                            exact h1
                          have HFAR2 : Hid ((∀ (i : Nat) (f : DS) (x : DS), (fs ++ [(⟨.slice aom fs2.length capm, fs2⟩ : DS)])[i]? = some f → (inkd inkT z.lt nt)[i]? = some x → f.ss = x.ss ++ List.replicate 100 (43 :: mkT i))) := fun i f xx hf hxx => by
                            by_cases hi : i < fs.length
                            · rw [List.getElem?_append_left hi] at hf
                              exact HFAR.out i f xx hf hxx
                            · rw [List.getElem?_append_right (by omega)] at hf
                              by_cases e : i - fs.length = 0
                              · obtain rfl : i = k := by have := HFL.out; omega
                                rw [e] at hf
                                simp at hf
                                subst hf
                                rw [HXK.out] at hxx
                                cases hxx
                                exact hff
                              · rw [List.getElem?_eq_none (by simp; omega)] at hf; cases hf
                          have HR9 : Hid (∀ ty, (Builtin.append_ #[63, 63] ty #[.slice ao9 k cap9, .slice (some ⟨wr.heap.size, 0, none⟩) 1 1]).run Try.prog (wr.alloc (.cells #[.slice aom fs2.length capm] 51)) = .ok (.slice (some ⟨g9, o9, none⟩) (k + 1) cc9) W9) := hrun9
                          clear hT9 hrun9 hT9' hc9 hu9 hS hP rf hff
                          go_wp2_with (at_builtin; refine wpList_runs rfl _ _ 63 rfl rfl rfl HR9.out ?_)
                          go_roundw
                          case rel => exact ⟨_, rfl, k + 1, by omega, by go_num, fs ++ [⟨.slice aom fs2.length capm, fs2⟩], by simp [HFL.out], HFAR2.out, HN2.out⟩
                          case measure => simp [intOf]; omega
                    · obtain rfl : nt = k := by omega
                      obtain ⟨W11, hW11⟩ : ∃ W11, W11 = wr := ⟨wr, rfl⟩
                      subst hW11
                      subst hv9
                      obtain ⟨fsT, hfsT⟩ : ∃ fsT, fsT = fs := ⟨fs, rfl⟩
                      subst hfsT
                      obtain ⟨ao9T, hao9T⟩ : ∃ q, q = ao9 := ⟨ao9, rfl⟩
                      subst hao9T
                      obtain ⟨cap9T, hcap9T⟩ : ∃ q, q = cap9 := ⟨cap9, rfl⟩
                      subst hcap9T
                      have HFLT : Hid (fsT.length = nt) := HFL.out
                      have HFART : Hid ((∀ (i : Nat) (f : DS) (x : DS), fsT[i]? = some f → (inkd inkT z.lt nt)[i]? = some x → f.ss = x.ss ++ List.replicate 100 (43 :: mkT i))) := HFAR.out
                      clear hT9 hc9 hS
                      go_wp2_with fail
                      clear c7 hlt hk HFL HFAR
                      have HS0 : Hid (AS a kl wl KL WL WL own0 w (z.box a mk) (tailE a.S0 45 ts45 (.slice none 0 0) 0 (([] : List DC).map DC.d) :: ((tailE a.S0 51 ts51 (.slice ao9T nt cap9T) nt (fsT.map DS.d) :: plS a.S0 (inkd inkT z.lt nt) fsT) ++ (plC a.S0 (inkd inkC z.lc nc) ([] : List DC) ++ z.base a.S0))) W11) := show AS a kl wl KL WL WL own0 w (z.box a mk) _ W11 from by
                        have h0 := HS.out
                        rw [← plC_nil] at h0
                        exact h0.add (e := tailE a.S0 45 ts45 (.slice none 0 0) 0 []) (tail_nil _ _ _) (fun k hk => by cases hk)
                      clear HS
                      go_loopw [10, 14, 15, 16] (fun s9 s3 _ _ wr => ∃ v9, v9 = s9 ∧ ∃ k : Nat, k ≤ nc ∧ s3 = .int .i64 k ∧ ∃ fs : List DC, fs.length = k ∧ (∀ (i : Nat) (f : DC) (x : DC), fs[i]? = some f → (inkd inkC z.lc nc)[i]? = some x → f.cs = x.cs ++ List.replicate 100 ((-1000000 - (i : Int), 0) : Int × Int)) ∧ AS a kl wl KL WL WL own0 w (z.box a mk) (tailE a.S0 45 ts45 v9 k (fs.map DC.d) :: ((tailE a.S0 51 ts51 (.slice ao9T nt cap9T) nt (fsT.map DS.d) :: plS a.S0 (inkd inkT z.lt nt) fsT) ++ (plC a.S0 (inkd inkC z.lc nc) fs ++ z.base a.S0))) wr) (fun _ s3 _ _ _ => nc - (intOf s3).toNat)
                      case atStart => exact ⟨_, rfl, 0, by omega, rfl, [], rfl, (fun i f x h => by simp at h), HS0.out⟩
                      case round =>
                        obtain ⟨v9, rfl, k, hk, rfl, fs, hfl, hfar, hS⟩ := hrel
                        clear HS0
                        have HS : Hid (AS a kl wl KL WL WL own0 w (z.box a mk) (tailE a.S0 45 ts45 v9 k (fs.map DC.d) :: ((tailE a.S0 51 ts51 (.slice ao9T nt cap9T) nt (fsT.map DS.d) :: plS a.S0 (inkd inkT z.lt nt) fsT) ++ (plC a.S0 (inkd inkC z.lc nc) fs ++ z.base a.S0))) wr) := hS
                        have HFL : Hid (fs.length = k) := hfl
                        have HFAR : Hid ((∀ (i : Nat) (f : DC) (x : DC), fs[i]? = some f → (inkd inkC z.lc nc)[i]? = some x → f.cs = x.cs ++ List.replicate 100 ((-1000000 - (i : Int), 0) : Int × Int))) := hfar
                        have c7 : wr.cell? ⟨a.pb, 9, none⟩ = some (.slice aoC nc cC) := (hS.cell 9).trans (by rw [← HVC.out]; rfl)
                        have hT9 : Tail wr a.S0 45 v9 k (fs.map DC.d) := hS.h.all _ (List.mem_cons_self ..)
                        obtain ⟨ao9, cap9, hv9, hc9, _⟩ := tail_form hT9
                        clear hfl hfar
                        by_cases hlt : k < nc
                        · have hxk : k < (inkd inkC z.lc nc).length := by rw [inkd_len]; have := HNC.out; omega
                          obtain ⟨x, hx⟩ : ∃ x, (inkd inkC z.lc nc)[k]? = some x := ⟨(inkd inkC z.lc nc)[k]'hxk, List.getElem?_eq_getElem _⟩
                          obtain ⟨x0, hx0⟩ : ∃ x, z.lc[k]? = some x := ⟨z.lc[k]'(by have := HNC.out; omega), List.getElem?_eq_getElem _⟩
                          have hxx : x = inkC k x0 := by
                            have := inkd_all (f := inkC) hx0 hlt
                            rw [hx] at this
                            exact Option.some.inj this
                          have hxd : x.d = x0.d := by rw [hxx]; rfl
                          have hxl : x.cs.length ≤ 1000 := by
                            rw [hxx]
                            show (List.replicate _ _).length ≤ 1000
                            rw [List.length_replicate]
                            exact HF.out.s2 x0 (List.mem_append.2 (Or.inr (List.mem_append.2 (Or.inl (List.mem_of_getElem? hx0)))))
                          have hag := HGC.out (by omega)
                          subst hag
                          have hsp := split_at hx
                          obtain ⟨A, hA⟩ : ∃ A, A = (inkd inkC z.lc nc).take k := ⟨_, rfl⟩
                          obtain ⟨Bl, hBl⟩ : ∃ Bl, Bl = (inkd inkC z.lc nc).drop (k + 1) := ⟨_, rfl⟩
                          rw [← hA, ← hBl] at hsp
                          have hAl : fs.length = A.length := by rw [HFL.out, hA, List.length_take]; omega
                          have HSN : Hid (∀ ff, plC a.S0 (inkd inkC z.lc nc) (fs ++ [ff]) = plC a.S0 A fs ++ prC a.S0 x ff :: Bl.map (dcE a.S0)) := fun ff => by rw [hsp]; exact plC_snoc a.S0 A Bl x ff fs hAl
                          have hS1 := HS.out
                          rw [hsp, plC_split a.S0 A Bl x fs hAl, List.append_assoc, List.cons_append] at hS1
                          have rx : World.ownsRow wr a.S0 37 2 x.d x.cs.length (flatC x.cs) := hS1.h.all (dcE a.S0 x) (by simp)
                          have hS2 : AS a kl wl KL WL WL own0 w (z.box a mk) (tailE a.S0 45 ts45 v9 k (fs.map DC.d) :: ((tailE a.S0 51 ts51 (.slice ao9T nt cap9T) nt (fsT.map DS.d) :: plS a.S0 (inkd inkT z.lt nt) fsT) ++ (plC a.S0 A fs ++ prC a.S0 x x :: (Bl.map (dcE a.S0) ++ z.base a.S0)))) wr := AS.mid2 (Q := tailE a.S0 45 ts45 v9 k (fs.map DC.d) :: (tailE a.S0 51 ts51 (.slice ao9T nt cap9T) nt (fsT.map DS.d) :: plS a.S0 (inkd inkT z.lt nt) fsT)) (e' := prC a.S0 x x) hS1 (Chg.refl _ _) ⟨rx, rx⟩ (fun k hk => Or.inl (hk.elim id id))
                          obtain ⟨aox, capx, hxd2, hnx⟩ := own_slice rx
                          have tL : Tail wr a.S0 45 z.vlc z.lc.length (z.lc.map DC.d) := HS.out.h.all (z.e6 a.S0) (by simp [NZ.base])
                          rw [HVC.out, ← HNC.out] at tL
                          have dL := tail_cell tL (j := k) (u := x.d) (by rw [List.getElem?_map, hx0, hxd]; rfl)
                          rw [hxd2] at dL
                          have HM0 : Hid (AS a kl wl KL WL WL own0 w (z.box a mk) (tailE a.S0 45 ts45 v9 k (fs.map DC.d) :: ((tailE a.S0 51 ts51 (.slice ao9T nt cap9T) nt (fsT.map DS.d) :: plS a.S0 (inkd inkT z.lt nt) fsT) ++ (plC a.S0 A fs ++ prC a.S0 x x :: (Bl.map (dcE a.S0) ++ z.base a.S0)))) wr) := hS2
                          have HXD : Hid (x.d = .slice aox x.cs.length capx) := hxd2
                          have HXK : Hid ((inkd inkC z.lc nc)[k]? = some x) := hx
                          clear tL hS2 rx hS1 hsp hA hBl hAl hx hx0 hxx hxd hxk hS hT9 hv9 hc9 hxd2
                          go_wp2_with fail
                          go_loopw [15, 16] (fun s12 s13 wr => ∃ j : Nat, j ≤ 100 ∧ s13 = .int .i64 j ∧ ∃ ff : DC, s12 = ff.d ∧ ff.cs = x.cs ++ List.replicate j ((-1000000 - (k : Int), 0) : Int × Int) ∧ AS a kl wl KL WL WL own0 w (z.box a mk) (tailE a.S0 45 ts45 v9 k (fs.map DC.d) :: ((tailE a.S0 51 ts51 (.slice ao9T nt cap9T) nt (fsT.map DS.d) :: plS a.S0 (inkd inkT z.lt nt) fsT) ++ (plC a.S0 A fs ++ prC a.S0 x ff :: (Bl.map (dcE a.S0) ++ z.base a.S0)))) wr) (fun _ s13 _ => 100 - (intOf s13).toNat)
                          case atStart => exact ⟨0, by omega, rfl, x, HXD.out.symm, by simp, HM0.out⟩
                          case round =>
                            obtain ⟨j, hj, rfl, ff, rfl, hff, hS⟩ := hrel
                            clear HM0
                            obtain ⟨fd, fs2⟩ := ff
                            simp only at hff
                            have hP : (prC a.S0 x ⟨fd, fs2⟩).P wr := hS.h.all _ (by simp)
                            have rf : World.ownsRow wr a.S0 37 2 fd fs2.length (flatC fs2) := hP.2
                            have HFL2 : Hid (fs2.length = x.cs.length + j) := show _ = _ from by rw [hff]; simp
                            have hfle : fs2.length ≤ 1100 := by have := HFL2.out; omega
                            obtain ⟨aom, capm, hvm, hcm⟩ := own_slice rf
                            subst hvm
                            have hcapm : capm ≤ maxLen := by obtain ⟨_, _, e, _, h, _⟩ := own_read rf; cases e; exact h
                            unfold maxLen at hcapm
                            by_cases hjl : j < 100
                            · obtain ⟨X1, hX1⟩ : ∃ X1, X1 = wr := ⟨_, rfl⟩
                              have hb1' : Below wr.heap.size wr X1 := by rw [hX1]; exact Below.refl _ _
                              have hwk : IntKind.i64.wrap (-1000000 - (k : Int)) = -1000000 - (k : Int) := by rw [IntKind.wrap_i64]; omega
                              have hal : Below wr.heap.size wr (X1.alloc (.cells #[.int .i64 (-1000000 - (k : Int)), .int .i64 0] 37)) := hb1'.alloc hb1'.size _
                              have hS1 := hS.more hal
                              have rf1 : World.ownsRow (X1.alloc (.cells #[.int .i64 (-1000000 - (k : Int)), .int .i64 0] 37)) a.S0 37 2 (.slice aom fs2.length capm) fs2.length (flatC fs2) := ownsRow_same rf (fun g e => hal.block g (ownsRow_lt rf e).2)
                              obtain ⟨v6, w6, hr6, ho6, hg6, hin6⟩ := app_any (w := X1.alloc (.cells #[.int .i64 (-1000000 - (k : Int)), .int .i64 0] 37)) 45 37 (.agg #[.int .i64 0, .int .i64 0]) 2 16 Try.underlying45 info37 rfl (by decide) (by decide) rf1 ⟨X1.heap.size, 0, none⟩ 1 1 [Value.int .i64 (-1000000 - (k : Int)), .int .i64 0] rfl (fun q u hu => by
                                have hB : Blk (X1.alloc (.cells #[.int .i64 (-1000000 - (k : Int)), .int .i64 0] 37)) X1.heap.size #[Value.int .i64 (-1000000 - (k : Int)), .int .i64 0] 37 := heap_alloc_new X1 _
                                rw [addr_add, Nat.zero_add, hB.cell q]
                                simpa using hu) (fun u hu => by simp at hu; rcases hu with rfl | rfl <;> rfl) (by omega) (Nat.le_trans HLOW.out hS1.chg.size) 45
                              obtain ⟨ao6, cap6, hv6, _⟩ := own_slice ho6
                              subst hv6
                              have hlen6 : (fs2 ++ [((-1000000 - (k : Int), 0) : Int × Int)]).length = fs2.length + 1 := by simp
                              have hfl6 : flatC (fs2 ++ [((-1000000 - (k : Int), 0) : Int × Int)]) = flatC fs2 ++ [Value.int .i64 (-1000000 - (k : Int)), .int .i64 0] := by simp [flatC]
                              have hN : AS a kl wl KL WL WL own0 w (z.box a mk) (tailE a.S0 45 ts45 v9 k (fs.map DC.d) :: ((tailE a.S0 51 ts51 (.slice ao9T nt cap9T) nt (fsT.map DS.d) :: plS a.S0 (inkd inkT z.lt nt) fsT) ++ (plC a.S0 A fs ++ prC a.S0 x (⟨.slice ao6 (fs2.length + 1) cap6, fs2 ++ [((-1000000 - (k : Int), 0) : Int × Int)]⟩ : DC) :: (Bl.map (dcE a.S0) ++ z.base a.S0)))) w6 := grow2_prC (Q := tailE a.S0 45 ts45 v9 k (fs.map DC.d) :: (tailE a.S0 51 ts51 (.slice ao9T nt cap9T) nt (fsT.map DS.d) :: plS a.S0 (inkd inkT z.lt nt) fsT)) (f := ⟨.slice aom fs2.length capm, fs2⟩) hS1 (by have := HFL2.out; simp only; omega) (show World.ownsRow w6 a.S0 37 2 _ _ _ from by rw [hlen6, hfl6]; exact ho6) hg6 hin6
                              have HNN : Hid _ := hN
                              have HFF : Hid (fs2 ++ [((-1000000 - (k : Int), 0) : Int × Int)] = x.cs ++ List.replicate (j + 1) ((-1000000 - (k : Int), 0) : Int × Int)) := show _ = _ from by rw [hff, List.append_assoc, List.replicate_succ']
                              have HR6 : Hid (∀ ty, (Builtin.append_ #[45, 45] ty #[.slice aom fs2.length capm, .slice (some ⟨X1.heap.size, 0, none⟩) 1 1]).run Try.prog (X1.alloc (.cells #[.int .i64 (-1000000 - (k : Int)), .int .i64 0] 37)) = .ok (.slice ao6 (fs2.length + 1) cap6) w6) := fun ty => hr6
                              have hwq : IntKind.i64.wrap ((k : Int) / 256) = (k : Int) / 256 := by rw [IntKind.wrap_i64]; omega
                              clear hal hS1 rf1 hr6 ho6 hg6 hin6 hlen6 hfl6 hN hP rf hS hb1' hff 
                              subst hX1
                              go_wp2_with (at_builtin; refine wpList_runs rfl _ _ 45 rfl rfl rfl HR6.out ?_)
                              go_roundw
                              case rel => exact ⟨j + 1, by omega, by go_num, ⟨.slice ao6 (fs2.length + 1) cap6, fs2 ++ [((-1000000 - (k : Int), 0) : Int × Int)]⟩, rfl, HFF.out, HNN.out⟩
                              case measure => simp [intOf]; omega
                            · obtain rfl : j = 100 := by omega
                              have hT9 : Tail wr a.S0 45 v9 k (fs.map DC.d) := hS.h.all _ (List.mem_cons_self ..)
                              obtain ⟨ao9, cap9, hv9, _, _⟩ := tail_form hT9
                              obtain ⟨g9, o9, cc9, W9, hrun9, hT9', hc9, hu9⟩ := app_tail 64 45 (.slice none 0 0) 24 Try.underlying64 info45 rfl (by decide) hT9 (.slice aom fs2.length capm) rfl (by omega) (Nat.le_trans HLOW.out hS.chg.size)
                              subst hv9
                              have HN2 : Hid (AS a kl wl KL WL WL own0 w (z.box a mk) (tailE a.S0 45 ts45 (.slice (some ⟨g9, o9, none⟩) (k + 1) cc9) (k + 1) ((fs ++ [(⟨.slice aom fs2.length capm, fs2⟩ : DC)]).map DC.d) :: ((tailE a.S0 51 ts51 (.slice ao9T nt cap9T) nt (fsT.map DS.d) :: plS a.S0 (inkd inkT z.lt nt) fsT) ++ (plC a.S0 (inkd inkC z.lc nc) (fs ++ [(⟨.slice aom fs2.length capm, fs2⟩ : DC)]) ++ z.base a.S0))) W9) := show AS a kl wl KL WL WL own0 w (z.box a mk) _ W9 from by
                                have h1 := hS.swap (e' := tailE a.S0 45 ts45 (.slice (some ⟨g9, o9, none⟩) (k + 1) cc9) (k + 1) ((fs ++ [(⟨.slice aom fs2.length capm, fs2⟩ : DC)]).map DC.d)) hc9 (show Tail W9 a.S0 45 _ _ _ from by rw [List.map_append]; exact hT9') hu9
                                rw [HSN.out, List.append_assoc, List.cons_append]
                                exact h1
                              have HFAR2 : Hid ((∀ (i : Nat) (f : DC) (x : DC), (fs ++ [(⟨.slice aom fs2.length capm, fs2⟩ : DC)])[i]? = some f → (inkd inkC z.lc nc)[i]? = some x → f.cs = x.cs ++ List.replicate 100 ((-1000000 - (i : Int), 0) : Int × Int))) := fun i f xx hf hxx => by
                                by_cases hi : i < fs.length
                                · rw [List.getElem?_append_left hi] at hf
                                  exact HFAR.out i f xx hf hxx
                                · rw [List.getElem?_append_right (by omega)] at hf
                                  by_cases e : i - fs.length = 0
                                  · obtain rfl : i = k := by have := HFL.out; omega
                                    rw [e] at hf
                                    simp at hf
                                    subst hf
                                    rw [HXK.out] at hxx
                                    cases hxx
                                    exact hff
                                  · rw [List.getElem?_eq_none (by simp; omega)] at hf; cases hf
                              have HR9 : Hid (∀ ty, (Builtin.append_ #[64, 64] ty #[.slice ao9 k cap9, .slice (some ⟨wr.heap.size, 0, none⟩) 1 1]).run Try.prog (wr.alloc (.cells #[.slice aom fs2.length capm] 45)) = .ok (.slice (some ⟨g9, o9, none⟩) (k + 1) cc9) W9) := hrun9
                              clear hT9 hrun9 hT9' hc9 hu9 hS hP rf hff
                              go_wp2_with (at_builtin; refine wpList_runs rfl _ _ 64 rfl rfl rfl HR9.out ?_)
                              go_roundw
                              case rel => exact ⟨_, rfl, k + 1, by omega, by go_num, fs ++ [⟨.slice aom fs2.length capm, fs2⟩], by simp [HFL.out], HFAR2.out, HN2.out⟩
                              case measure => simp [intOf]; omega
                        · obtain rfl : nc = k := by omega
                          obtain ⟨W14, hW14⟩ : ∃ W14, W14 = wr := ⟨wr, rfl⟩
                          subst hW14
                          subst hv9
                          obtain ⟨fsC, hfsC⟩ : ∃ fsC, fsC = fs := ⟨fs, rfl⟩
                          subst hfsC
                          obtain ⟨ao9C, hao9C⟩ : ∃ q, q = ao9 := ⟨ao9, rfl⟩
                          subst hao9C
                          obtain ⟨cap9C, hcap9C⟩ : ∃ q, q = cap9 := ⟨cap9, rfl⟩
                          subst hcap9C
                          have HFLC : Hid (fsC.length = nc) := HFL.out
                          have HFARC : Hid ((∀ (i : Nat) (f : DC) (x : DC), fsC[i]? = some f → (inkd inkC z.lc nc)[i]? = some x → f.cs = x.cs ++ List.replicate 100 ((-1000000 - (i : Int), 0) : Int × Int))) := HFAR.out
                          clear hT9 hc9 hS
                          go_wp2_with fail
                          clear c7 hlt hk HFL HFAR
                          as_aux_lemma =>
                            go_loopw [17, 18, 19, 20] (fun s17 _ _ _ wr => ∃ k : Nat, k ≤ nt ∧ s17 = .int .i64 k ∧ AS a kl wl KL WL WL own0 w (z.box a mk) (tailE a.S0 45 ts45 (.slice ao9C nc cap9C) nc (fsC.map DC.d) :: ((tailE a.S0 51 ts51 (.slice ao9T nt cap9T) nt (fsT.map DS.d) :: plS a.S0 (inkd inkT z.lt nt) fsT) ++ (plC a.S0 (inkd inkC z.lc nc) fsC ++ z.base a.S0))) wr) (fun s17 _ _ _ _ => nt - (intOf s17).toNat)
                            case atStart => exact ⟨0, by omega, rfl, HS.out⟩
                            case round =>
                              obtain ⟨k, hk, rfl, hS⟩ := hrel
                              clear HS
                              have HS : Hid (AS a kl wl KL WL WL own0 w (z.box a mk) (tailE a.S0 45 ts45 (.slice ao9C nc cap9C) nc (fsC.map DC.d) :: ((tailE a.S0 51 ts51 (.slice ao9T nt cap9T) nt (fsT.map DS.d) :: plS a.S0 (inkd inkT z.lt nt) fsT) ++ (plC a.S0 (inkd inkC z.lc nc) fsC ++ z.base a.S0))) wr) := hS
                              have c7 : wr.cell? ⟨a.pb, 7, none⟩ = some (.slice aoT nt cT) := (hS.cell 7).trans (by rw [← HVT.out]; rfl)
                              by_cases hlt : k < nt
                              · obtain ⟨x0, hx0⟩ : ∃ x, z.lt[k]? = some x := ⟨z.lt[k]'(by have := HNT.out; omega), List.getElem?_eq_getElem _⟩
                                obtain ⟨f, hf⟩ : ∃ x, fsT[k]? = some x := ⟨fsT[k]'(by have := HFLT.out; omega), List.getElem?_eq_getElem _⟩
                                have hxk : (inkd inkT z.lt nt)[k]? = some (inkT k x0) := inkd_all hx0 hlt
                                have hP : (prS a.S0 (inkT k x0) f).P wr := hS.h.all _ (by
                                  have := plS_mem a.S0 _ _ k _ _ hxk hf
                                  simp only [List.mem_cons, List.mem_append]
                                  exact Or.inr (Or.inl (Or.inr this)))
                                have hag := HGT.out (by omega)
                                subst hag
                                have tL : Tail wr a.S0 51 z.vlt z.lt.length (z.lt.map DS.d) := hS.h.all (z.e4 a.S0) (by simp [NZ.base])
                                rw [HVT.out, ← HNT.out] at tL
                                have t9 : Tail wr a.S0 51 (.slice ao9T nt cap9T) nt (fsT.map DS.d) := hS.h.all (tailE a.S0 51 ts51 (.slice ao9T nt cap9T) nt (fsT.map DS.d)) (by simp)
                                obtain ⟨g9, o9, hg9⟩ : ∃ g o, ao9T = some ⟨g, o, none⟩ := by
                                  obtain ⟨_, _, e, _, h⟩ := tail_form t9
                                  cases e
                                  obtain ⟨g, o, e, _⟩ := h (by omega)
                                  exact ⟨g, o, e⟩
                                subst hg9
                                have hxl : x0.ss.length ≤ 1000 := HF.out.s1 x0 (List.mem_append.2 (Or.inr (List.mem_append.2 (Or.inl (List.mem_of_getElem? hx0)))))
                                obtain ⟨aox, capx, gx, gf, capf, e1, hcx, hax, e2, hcf, h4, h5⟩ := chkS (m := mkT k) (p := (43 :: mkT k)) hP rfl (HFART.out k f _ hf hxk)
                                have dL := tail_cell tL (j := k) (u := .slice aox x0.ss.length capx) (by rw [List.getElem?_map, hx0]; exact congrArg some e1)
                                have dF := tail_cell t9 (j := k) (u := .slice (some ⟨gf, 0, none⟩) (x0.ss.length + 100) capf) (by rw [List.getElem?_map, hf]; exact congrArg some e2)
                                obtain ⟨nx, hnx⟩ : ∃ nx, nx = x0.ss.length := ⟨_, rfl⟩
                                rw [← hnx] at dL dF hxl hax h4 h5 hcx hcf
                                clear tL t9 hP hxk hx0 hf e1 e2 hnx hS
                                have HAX : Hid (0 < nx → aox = some ⟨gx, 0, none⟩) := hax
                                clear hax
                                obtain ⟨b0, hb0⟩ : ∃ b0, b0 = UInt8.ofNat k := ⟨_, rfl⟩
                                obtain ⟨b1, hb1⟩ : ∃ b1, b1 = UInt8.ofNat (k / 256) := ⟨_, rfl⟩
                                have hw0 : IntKind.u8.wrap (k : Int) = (b0.toNat : Int) := by rw [hb0]; exact wrap8 k
                                have hw1' : IntKind.u8.wrap ((k : Int) / 256) = (b1.toNat : Int) := by rw [hb1]; exact wrap8' k
                                have hq256' : (k : Int).tdiv 256 = (k : Int) / 256 := Int.tdiv_eq_ediv_of_nonneg (by omega)
                                have hmk : mkT k = [b0, b1] := by rw [hb0, hb1]; rfl
                                rw [hmk] at h4 h5
                                have hcv : (convert 22 9 (.slice (some ⟨wr.heap.size, 0, none⟩) 2 2)).run Try.prog (wr.alloc (.cells #[.int .u8 (b0.toNat : Int), .int .u8 (b1.toNat : Int)] 5)) = .ok (.string ⟨[b0, b1].toArray⟩) (wr.alloc (.cells #[.int .u8 (b0.toNat : Int), .int .u8 (b1.toNat : Int)] 5)) := conv_two wr b0 b1
                                obtain ⟨m, hm⟩ : ∃ m : List UInt8, m = [b0, b1] := ⟨_, rfl⟩
                                rw [← hm] at h4 h5 hcv
                                have hmlen : m.length ≤ 2 := by rw [hm]; exact Nat.le_refl 2
                                obtain ⟨u0, hu0⟩ : ∃ u0 : Int, u0 = (b0.toNat : Int) := ⟨_, rfl⟩
                                obtain ⟨u1, hu1⟩ : ∃ u1 : Int, u1 = (b1.toNat : Int) := ⟨_, rfl⟩
                                rw [← hu0] at hw0 hcv
                                rw [← hu1] at hw1' hcv
                                obtain ⟨kq, hkq⟩ : ∃ kq : Int, kq = (k : Int) / 256 := ⟨_, rfl⟩
                                rw [← hkq] at hw1' hq256'
                                have hwq : IntKind.i64.wrap kq = kq := by rw [hkq, IntKind.wrap_i64]; omega
                                clear hb0 hb1 hmk hm hu0 hu1 hkq
                                have hb1' : Below wr.heap.size wr (wr.alloc (.cells #[.int .u8 u0, .int .u8 u1] 5)) := (Below.refl _ _).alloc (Nat.le_refl _) _
                                have H4 : Hid (∀ j, j < nx → (wr.alloc (.cells #[.int .u8 u0, .int .u8 u1] 5)).cell? ⟨gx, j, none⟩ = some (.string ⟨m.toArray⟩) ∧ (wr.alloc (.cells #[.int .u8 u0, .int .u8 u1] 5)).cell? ⟨gf, j, none⟩ = some (.string ⟨m.toArray⟩)) := fun j hj => ⟨(hb1'.cell (p := ⟨gx, j, none⟩) (World.block_lt_of_cell? wr _ (h4 j hj).1)).trans (h4 j hj).1, (hb1'.cell (p := ⟨gf, j, none⟩) (World.block_lt_of_cell? wr _ (h4 j hj).2)).trans (h4 j hj).2⟩
                                have H5 : Hid (∀ j, nx ≤ j → j < nx + 100 → (wr.alloc (.cells #[.int .u8 u0, .int .u8 u1] 5)).cell? ⟨gf, j, none⟩ = some (.string (⟨#[43]⟩ ++ ⟨m.toArray⟩))) := fun j h1 h2 => ((hb1'.cell (p := ⟨gf, j, none⟩) (World.block_lt_of_cell? wr _ (h5 j h1 h2))).trans (h5 j h1 h2)).trans (congrArg (fun q => some (Value.string q)) (by apply ByteArray.ext; simp [ByteArray.data_append]))
                                have HS1 : Hid _ := HS.out.more hb1'
                                have d7 := (hb1'.cell (p := ⟨a.pb, 7, none⟩) (World.block_lt_of_cell? wr _ c7)).trans c7
                                have dL' := (hb1'.cell (p := ⟨gT, oT + k, none⟩) (World.block_lt_of_cell? wr _ dL)).trans dL
                                have dF' := (hb1'.cell (p := ⟨g9, o9 + k, none⟩) (World.block_lt_of_cell? wr _ dF)).trans dF
                                have HC7 : Hid _ := d7
                                have HDL : Hid _ := dL'
                                have HDF : Hid _ := dF'
                                clear h4 h5 hb1' d7 dL' dF' HS
                                go_upto_region 50 with fail
                                clear hcv hw0 hw1' hq256' hwq c7 dL dF
                                have d7 := HC7.out
                                have dL := HDL.out
                                have dF := HDF.out
                                clear HC7 HDL HDF
                                generalize wr.alloc (.cells #[.int .u8 u0, .int .u8 u1] 5) = X1 at *
                                go_wp2_with fail
                                go_loopw [20] (fun s20 wr2 => ∃ j : Nat, j ≤ nx + 100 ∧ s20 = .int .i64 j ∧ wr2 = X1) (fun s20 _ => nx + 100 - (intOf s20).toNat)
                                case atStart => exact ⟨0, by omega, rfl, rfl⟩
                                case round =>
                                  obtain ⟨j, hj, rfl, hwr⟩ := hrel
                                  subst hwr
                                  by_cases hjl : j < nx + 100
                                  · by_cases hjn : j < nx
                                    · obtain ⟨p1, p2⟩ := H4.out j hjn
                                      have hag := HAX.out (by omega)
                                      subst hag
                                      go_wp2_with fail
                                      go_roundw
                                      case rel => exact ⟨j + 1, by omega, by go_num, by first | rfl | trivial⟩
                                      case measure => simp [intOf]; omega
                                    · have p2 := H5.out j (by omega) hjl
                                      go_wp2_with fail
                                      go_roundw
                                      case rel => exact ⟨j + 1, by omega, by go_num, by first | rfl | trivial⟩
                                      case measure => simp [intOf]; omega
                                  · go_wp2_with fail
                                    go_roundw
                                    case rel => exact ⟨k + 1, by omega, by go_num, HS1.out⟩
                                    case measure => simp [intOf]; omega
                              · obtain ⟨W17, hW17⟩ : ∃ W17, W17 = wr := ⟨wr, rfl⟩
                                subst hW17
                                clear hS
                                go_wp2_with fail
                                clear c7 hlt hk
                                go_loopw [21, 22, 23] (fun s21 _ _ wr => ∃ k : Nat, k ≤ nc ∧ s21 = .int .i64 k ∧ AS a kl wl KL WL WL own0 w (z.box a mk) (tailE a.S0 45 ts45 (.slice ao9C nc cap9C) nc (fsC.map DC.d) :: ((tailE a.S0 51 ts51 (.slice ao9T nt cap9T) nt (fsT.map DS.d) :: plS a.S0 (inkd inkT z.lt nt) fsT) ++ (plC a.S0 (inkd inkC z.lc nc) fsC ++ z.base a.S0))) wr) (fun s21 _ _ _ => nc - (intOf s21).toNat)
                                case atStart => exact ⟨0, by omega, rfl, HS.out⟩
                                case round =>
                                  obtain ⟨k, hk, rfl, hS⟩ := hrel
                                  clear HS
                                  have HS : Hid (AS a kl wl KL WL WL own0 w (z.box a mk) (tailE a.S0 45 ts45 (.slice ao9C nc cap9C) nc (fsC.map DC.d) :: ((tailE a.S0 51 ts51 (.slice ao9T nt cap9T) nt (fsT.map DS.d) :: plS a.S0 (inkd inkT z.lt nt) fsT) ++ (plC a.S0 (inkd inkC z.lc nc) fsC ++ z.base a.S0))) wr) := hS
                                  have c7 : wr.cell? ⟨a.pb, 9, none⟩ = some (.slice aoC nc cC) := (hS.cell 9).trans (by rw [← HVC.out]; rfl)
                                  by_cases hlt : k < nc
                                  · obtain ⟨x0, hx0⟩ : ∃ x, z.lc[k]? = some x := ⟨z.lc[k]'(by have := HNC.out; omega), List.getElem?_eq_getElem _⟩
                                    obtain ⟨f, hf⟩ : ∃ x, fsC[k]? = some x := ⟨fsC[k]'(by have := HFLC.out; omega), List.getElem?_eq_getElem _⟩
                                    have hxk : (inkd inkC z.lc nc)[k]? = some (inkC k x0) := inkd_all hx0 hlt
                                    have hP : (prC a.S0 (inkC k x0) f).P wr := hS.h.all _ (by
                                      have := plC_mem a.S0 _ _ k _ _ hxk hf
                                      simp only [List.mem_cons, List.mem_append]
                                      exact Or.inr (Or.inr (Or.inl this)))
                                    have hag := HGC.out (by omega)
                                    subst hag
                                    have tL : Tail wr a.S0 45 z.vlc z.lc.length (z.lc.map DC.d) := hS.h.all (z.e6 a.S0) (by simp [NZ.base])
                                    rw [HVC.out, ← HNC.out] at tL
                                    have t9 : Tail wr a.S0 45 (.slice ao9C nc cap9C) nc (fsC.map DC.d) := hS.h.all (tailE a.S0 45 ts45 (.slice ao9C nc cap9C) nc (fsC.map DC.d)) (by simp)
                                    obtain ⟨g9, o9, hg9⟩ : ∃ g o, ao9C = some ⟨g, o, none⟩ := by
                                      obtain ⟨_, _, e, _, h⟩ := tail_form t9
                                      cases e
                                      obtain ⟨g, o, e, _⟩ := h (by omega)
                                      exact ⟨g, o, e⟩
                                    subst hg9
                                    have hxl : x0.cs.length ≤ 1000 := HF.out.s2 x0 (List.mem_append.2 (Or.inr (List.mem_append.2 (Or.inl (List.mem_of_getElem? hx0)))))
                                    obtain ⟨aox, capx, gx, gf, capf, e1, hcx, hax, e2, hcf, h4, h5⟩ := chkC (m := ((-1 - (k : Int), 0) : Int × Int)) (p := ((-1000000 - (k : Int), 0) : Int × Int)) hP rfl (HFARC.out k f _ hf hxk)
                                    have dL := tail_cell tL (j := k) (u := .slice aox x0.cs.length capx) (by rw [List.getElem?_map, hx0]; exact congrArg some e1)
                                    have dF := tail_cell t9 (j := k) (u := .slice (some ⟨gf, 0, none⟩) (x0.cs.length + 100) capf) (by rw [List.getElem?_map, hf]; exact congrArg some e2)
                                    obtain ⟨nx, hnx⟩ : ∃ nx, nx = x0.cs.length := ⟨_, rfl⟩
                                    rw [← hnx] at dL dF hxl hax h4 h5 hcx hcf
                                    clear tL t9 hP hxk hx0 hf e1 e2 hnx hS
                                    have HAX : Hid (0 < nx → aox = some ⟨gx, 0, none⟩) := hax
                                    clear hax
                                    have H4 : Hid (∀ j, j < nx → wr.cell? ⟨gx, j * 2, none⟩ = some (.int .i64 (-1 - (k : Int))) ∧ wr.cell? ⟨gf, j * 2, none⟩ = some (.int .i64 (-1 - (k : Int)))) := h4
                                    have H5 : Hid (∀ j, nx ≤ j → j < nx + 100 → wr.cell? ⟨gf, j * 2, none⟩ = some (.int .i64 (-1000000 - (k : Int)))) := h5
                                    have HS1 : Hid _ := HS.out
                                    have hwk1 : IntKind.i64.wrap (-1 - (k : Int)) = -1 - (k : Int) := by rw [IntKind.wrap_i64]; omega
                                    have hwk2 : IntKind.i64.wrap (-1000000 - (k : Int)) = -1000000 - (k : Int) := by rw [IntKind.wrap_i64]; omega
                                    clear h4 h5 HS
                                    obtain ⟨X1, hX1⟩ : ∃ X1, X1 = wr := ⟨_, rfl⟩
                                    subst hX1
                                    go_wp2_with fail
                                    go_loopw [23] (fun s23 wr2 => ∃ j : Nat, j ≤ nx + 100 ∧ s23 = .int .i64 j ∧ wr2 = X1) (fun s23 _ => nx + 100 - (intOf s23).toNat)
                                    case atStart => exact ⟨0, by omega, rfl, rfl⟩
                                    case round =>
                                      obtain ⟨j, hj, rfl, hwr⟩ := hrel
                                      subst hwr
                                      by_cases hjl : j < nx + 100
                                      · by_cases hjn : j < nx
                                        · obtain ⟨p1, p2⟩ := H4.out j hjn
                                          have hag := HAX.out (by omega)
                                          subst hag
                                          go_wp2_with fail
                                          go_roundw
                                          case rel => exact ⟨j + 1, by omega, by go_num, by first | rfl | trivial⟩
                                          case measure => simp [intOf]; omega
                                        · have p2 := H5.out j (by omega) hjl
                                          go_wp2_with fail
                                          go_roundw
                                          case rel => exact ⟨j + 1, by omega, by go_num, by first | rfl | trivial⟩
                                          case measure => simp [intOf]; omega
                                      · go_wp2_with fail
                                        go_roundw
                                        case rel => exact ⟨k + 1, by omega, by go_num, HS1.out⟩
                                        case measure => simp [intOf]; omega
                                  · obtain ⟨W21, hW21⟩ : ∃ W21, W21 = wr := ⟨wr, rfl⟩
                                    subst hW21
                                    clear hS
                                    go_wp2_with fail
                                    clear c7 hlt hk
                                    go_ret
                                    exact ⟨rfl, HS.out.chg⟩
end Go.Proofs.Ytbjlaloofpdbfaa
