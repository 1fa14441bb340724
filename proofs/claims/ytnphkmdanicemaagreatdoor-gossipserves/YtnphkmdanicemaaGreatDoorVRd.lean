import Derived.Test.YtnphkmdanicemaaGreatDoorVApp
namespace Go.Proofs.YtnphkmdanicemaaGreatDoor
open Go.RowKit Go.PlainAid Go.MapKept
set_option linter.unusedVariables false
set_option linter.unusedSimpArgs false
theorem nlt_irrefl : ∀ a : List UInt8, nlt a a = false
  | [] => rfl
  | x :: xs => by
    have := nlt_irrefl xs
    unfold nlt at *
    simp only [Op.bytesLess]
    have h : ¬ x < x := by simp only [UInt8.lt_iff_toNat_lt]; omega
    simp [h, this]
theorem nlt_trans : ∀ a b c : List UInt8, nlt a b = true → nlt b c = true → nlt a c = true
  | _, [], _, h, _ => by unfold nlt at h; cases ‹List UInt8› <;> simp [Op.bytesLess] at h
  | _, _ :: _, [], _, h => by simp [nlt, Op.bytesLess] at h
  | [], _ :: _, _ :: _, _, _ => rfl
  | x :: xs, y :: ys, z :: zs, h1, h2 => by
    have ih := nlt_trans xs ys zs
    unfold nlt at *
    simp only [Op.bytesLess, Bool.or_eq_true, decide_eq_true_eq, Bool.and_eq_true, beq_iff_eq, UInt8.lt_iff_toNat_lt] at *
    rcases h1 with h1 | ⟨rfl, h1⟩
    · rcases h2 with h2 | ⟨rfl, h2⟩
      · exact Or.inl (by omega)
      · exact Or.inl h1
    · rcases h2 with h2 | ⟨rfl, h2⟩
      · exact Or.inl h2
      · exact Or.inr ⟨rfl, ih h1 h2⟩
theorem nlt_ntrans (a b c : List UInt8) (h1 : nlt a b = false) (h2 : nlt b c = false) : nlt a c = false := by
  cases h : nlt a c
  · rfl
  · have t1 := nlt_tri b a
    rw [h1] at t1
    have t2 := nlt_tri c b
    rw [h2] at t2
    simp at t1 t2
    cases hab : nlt b a with
    | true =>
      have := nlt_trans b a c hab h
      rw [h2] at this
      cases this
    | false =>
      have e : a = b := by
        have := nlt_tri b a
        rw [hab, h1] at this
        simpa using this
      rw [e, h2] at h
      cases h
theorem nlt_ne {a b : List UInt8} (h1 : nlt a b = false) (h2 : nlt b a = false) : a = b := by
  have := nlt_tri a b
  rw [h1, h2] at this
  have h3 : b = a := by simpa using this.symm
  exact h3.symm
def sV (n : List UInt8) : Value := .string ⟨n.toArray⟩
/-- A name is put where it belongs. -/
def insN (nm : List UInt8) : List (List UInt8) → List (List UInt8)
  | [] => [nm]
  | x :: t => if nlt x nm = true then x :: insN nm t else if x = nm then nm :: t else nm :: x :: t
def nmsL (r : Int) (A : List Ent) : List (List UInt8) := A.foldl (fun o e => if e.r = r then insN e.n o else o) []
theorem nmsL_app (r : Int) (A : List Ent) (e : Ent) : nmsL r (A ++ [e]) = if e.r = r then insN e.n (nmsL r A) else nmsL r A := by simp [nmsL]
theorem insN_len (nm : List UInt8) : ∀ l, (insN nm l).length ≤ l.length + 1
  | [] => by simp [insN]
  | x :: t => by
    have := insN_len nm t
    simp only [insN]
    split
    · simp; omega
    · split <;> simp
theorem nmsL_len (r : Int) (A : List Ent) : (nmsL r A).length ≤ A.length := by
  suffices h : ∀ (A : List Ent) (o : List (List UInt8)), (A.foldl (fun o e => if e.r = r then insN e.n o else o) o).length ≤ o.length + A.length from by simpa [nmsL] using h A []
  intro A
  induction A with
  | nil => intro o; simp
  | cons e t ih =>
    intro o
    simp only [List.foldl_cons]
    refine Nat.le_trans (ih _) ?_
    have := insN_len e.n o
    split <;> simp <;> omega
/-- names under way: what is there, what is made anew. -/
structure NS (w wr : World) (vo vl : Value) (out l : List (List UInt8)) : Prop where
  ro : wr.ownsRow w.heap.size 9 1 vo out.length (out.map sV)
  rl : wr.ownsRow w.heap.size 9 1 vl l.length (l.map sV)
  ne : ∀ g, vo.ownBlock = some g → vl.ownBlock ≠ some g
  bel : Below w.heap.size w wr
theorem NS.app {w wr : World} {vo vl : Value} {out l : List (List UInt8)} (h : NS w wr vo vl out l) (s : List UInt8) (hl : l.length ≤ 200000) :
    ∃ v' w', (∀ ty, (Builtin.append_ #[147, 147] ty #[vl, .slice (some ⟨wr.heap.size, 0, none⟩) 1 1]).run Tryz.prog (wr.alloc (.cells #[.string ⟨s.toArray⟩] 9)) = .ok v' w') ∧ NS w w' vo v' out (l ++ [s]) := by
  obtain ⟨v', w', h1, h2, h3⟩ := app_one 147 9 (.string ⟨#[]⟩) 1 16 Tryz.underlying147 info9 rfl (by decide) (by decide) h.rl #[.string ⟨s.toArray⟩] rfl (fun u hu => by simp at hu; subst hu; rfl) (by omega) h.bel.size
  refine ⟨v', w', h1, ?_, ?_, ?_, ?_⟩
  · exact ownsRow_same h.ro (fun g hg => h3.g.block g (ownsRow_lt h.ro hg).2 (fun e => h.ne g hg e.symm))
  · simpa [sV] using h2
  · intro g hg hv
    rcases h3.at' g hv with h4 | h4
    · exact h.ne g hg h4
    · have := (ownsRow_lt h.ro hg).2; omega
  · exact h.bel.trans (h3.below (fun j hj => (ownsRow_lt h.rl hj).1) h.bel.size)
theorem NS.cell {w wr : World} {g0 nl capv k : Nat} {vl : Value} {out l : List (List UInt8)} (h : NS w wr (.slice (some ⟨g0, 0, none⟩) nl capv) vl out l) {x : List UInt8} (hx : out[k]? = some x) : wr.cell? ⟨g0, k, none⟩ = some (.string ⟨x.toArray⟩) := by
  obtain ⟨_, _, e, _, _, h2⟩ := own_read h.ro
  cases e
  obtain ⟨g, e, _, _, h4⟩ := h2 (by have := (List.getElem?_eq_some_iff.1 hx).1; omega)
  cases e
  exact h4 k _ (by rw [List.getElem?_map, hx]; rfl)
/-- How far the putting has come. -/
def Puts (nm : List UInt8) (out l : List (List UInt8)) (k : Nat) : Bool → Prop
  | false => l = out.take k ∧ insN nm out = out.take k ++ insN nm (out.drop k)
  | true => l ++ out.drop k = insN nm out
theorem drop_at {α : Type} {l : List α} {k : Nat} {x : α} (h : l[k]? = some x) : l.drop k = x :: l.drop (k + 1) := by
  obtain ⟨hl, rfl⟩ := List.getElem?_eq_some_iff.1 h
  exact List.drop_eq_getElem_cons hl
theorem Puts.less {nm : List UInt8} {out l : List (List UInt8)} {k : Nat} (h : Puts nm out l k false) {x : List UInt8} (hx : out[k]? = some x) (hn : nlt x nm = true) : Puts nm out (l ++ [x]) (k + 1) false := by
  obtain ⟨h1, h2⟩ := h
  refine ⟨by rw [h1, take_snoc hx], ?_⟩
  rw [h2, drop_at hx, take_snoc hx]
  simp [insN, hn]
theorem Puts.same {nm : List UInt8} {out l : List (List UInt8)} {k : Nat} (h : Puts nm out l k false) (hx : out[k]? = some nm) : Puts nm out (l ++ [nm]) (k + 1) true := by
  obtain ⟨h1, h2⟩ := h
  show _ = _
  rw [h2, drop_at hx, h1]
  simp [insN, nlt_irrefl]
theorem Puts.more {nm : List UInt8} {out l : List (List UInt8)} {k : Nat} (h : Puts nm out l k false) {x : List UInt8} (hx : out[k]? = some x) (hn : nlt x nm = false) (he : x ≠ nm) : Puts nm out (l ++ [nm] ++ [x]) (k + 1) true := by
  obtain ⟨h1, h2⟩ := h
  show _ = _
  rw [h2, drop_at hx, h1]
  simp [insN, hn, he]
theorem Puts.next {nm : List UInt8} {out l : List (List UInt8)} {k : Nat} (h : Puts nm out l k true) {x : List UInt8} (hx : out[k]? = some x) : Puts nm out (l ++ [x]) (k + 1) true := by
  have h' : l ++ out.drop k = insN nm out := h
  show _ = _
  rw [← h', drop_at hx]
  simp
theorem Puts.len {nm : List UInt8} {out l : List (List UInt8)} {k : Nat} {b : Bool} (h : Puts nm out l k b) (hk : k ≤ out.length) : l.length ≤ out.length + 1 := by
  cases b with
  | false => rw [h.1]; simp; omega
  | true =>
    have h' : l ++ out.drop k = insN nm out := h
    have h2 := congrArg List.length h'
    have h3 := insN_len nm out
    simp at h2
    omega
set_option maxRecDepth 100000 in
set_option maxHeartbeats 3200000 in
theorem names_any' {L rb : Nat} {me N : Int} {v : Value} {A : List Ent} (r : Int) (w : World) (hV : RVw L rb me N v A w) (hL : A.length ≤ 100000) :
    Calls Tryz.prog 78 #[.pointer (some ⟨rb, 0, none⟩), .int .i64 r] w fun e w' => ∃ u, e = .returned u ∧ w'.ownsRow w.heap.size 9 1 u (nmsL r A).length ((nmsL r A).map sV) ∧ Below w.heap.size w w' := by
  obtain ⟨ao, cap, hv, hcap, hat⟩ := hV.at
  subst hv
  obtain ⟨M, hM⟩ : ∃ M, M = A.length := ⟨_, rfl⟩
  have HV : Hid (RVw L rb me N (.slice ao M cap) A w) := show RVw L rb me N (.slice ao M cap) A w from by rw [hM]; exact hV
  have HAT : Hid (0 < A.length → ∃ g, ao = some ⟨g, 0, none⟩ ∧ L ≤ g ∧ ∀ j e, A[j]? = some e → EAt w g (j * 8) e) := hat
  have HM : Hid (M = A.length) := hM
  have hML : M ≤ 100000 := by omega
  clear hV hat
  rw [← hM] at hcap
  clear hM hL
  go_enter Tryz.func78, Tryz.ntmps78
  go_wp2_with fail
  go_loopw [5, 6] (fun o i wr => ∃ (j : Nat) (u : Value), u = o ∧ j ≤ M ∧ i = .int .i64 j ∧ wr.ownsRow w.heap.size 9 1 u (nmsL r (A.take j)).length ((nmsL r (A.take j)).map sV) ∧ Below w.heap.size w wr) (fun _ i _ => M - (intOf i).toNat)
  case atStart => exact ⟨0, _, rfl, Nat.zero_le _, rfl, World.ownsRow_nil _ _ _ _, Below.refl _ _⟩
  case round =>
    obtain ⟨j, u, rfl, hj, rfl, hrow, hbel⟩ := hrel
    have hV2 := HV.out.more hbel
    have c2 := hV2.c2
    clear hV2
    by_cases hlt : j < M
    · obtain ⟨e, he⟩ : ∃ e, A[j]? = some e := ⟨_, List.getElem?_eq_getElem (by rw [← HM.out]; exact hlt)⟩
      obtain ⟨g, hg, hLg, hE⟩ := HAT.out (by rw [← HM.out]; omega)
      subst hg
      have hgl : g < w.heap.size := (ownsRow_lt HV.out.row rfl).2
      have HEA : Hid (EAt w g (j * 8) e) := hE j e he
      obtain ⟨e0, e1, e2, e3, e4, e5, e6, e7⟩ := HEA.out.below (hbel.block g hgl)
      have HS : Hid (nmsL r (A.take (j + 1)) = if e.r = r then insN e.n (nmsL r (A.take j)) else nmsL r (A.take j)) := show _ = _ from by rw [take_snoc he, nmsL_app]
      have hol : (nmsL r (A.take j)).length ≤ 100000 := Nat.le_trans (nmsL_len _ _) (by rw [List.length_take]; omega)
      generalize nmsL r (A.take j) = out at *
      obtain ⟨nl, hnl⟩ : ∃ nl, nl = out.length := ⟨_, rfl⟩
      obtain ⟨aov, capv, hvv, hcv⟩ := own_slice hrow
      subst hvv
      have HNL : Hid (nl = out.length) := hnl
      have HRW : Hid (World.ownsRow wr w.heap.size 9 1 (.slice aov nl capv) nl (out.map sV)) := show World.ownsRow wr w.heap.size 9 1 (.slice aov nl capv) nl (out.map sV) from by rw [hnl]; exact hrow
      have HBL : Hid (Below w.heap.size w wr) := hbel
      rw [← hnl] at hol hcv ⊢
      clear hrow hbel hE he hLg hnl e2 e3 e4 e5 e6 e7
      by_cases k1 : e.r = r
      · have HT : Hid (nmsL r (A.take (j + 1)) = insN e.n out) := show _ = _ from by rw [HS.out, if_pos k1]
        clear HS
        go_wp2_with fail
        go_loopw [8, 9, 10] (fun s8 s9 s10 wz => ∃ (k : Nat) (vl : Value) (l : List (List UInt8)) (b : Bool), vl = s8 ∧ k ≤ nl ∧ s9 = .bool b ∧ s10 = .int .i64 k ∧ NS w wz (.slice aov nl capv) vl out l ∧ Puts e.n out l k b) (fun _ _ s10 _ => nl - (intOf s10).toNat)
        case atStart => exact ⟨0, _, [], false, rfl, Nat.zero_le _, rfl, rfl, ⟨by rw [← HNL.out]; exact HRW.out, World.ownsRow_nil _ _ _ _, (fun g _ h => by cases h), HBL.out⟩, ⟨by simp, by simp⟩⟩
        case round =>
          obtain ⟨k, vl, l, b, rfl, hk, rfl, rfl, hns, hput⟩ := hrel
          obtain ⟨al, cl, hvl, hcl⟩ := own_slice hns.rl
          subst hvl
          have hll := hput.len (by rw [← HNL.out]; exact hk)
          obtain ⟨ll, hle⟩ : ∃ ll, ll = l.length := ⟨_, rfl⟩
          have HLL : Hid (ll = l.length) := hle
          rw [← hle, ← HNL.out] at hll
          rw [← hle]
          have HNS : Hid (NS w wr (.slice aov nl capv) (.slice al ll cl) out l) := show NS w wr (.slice aov nl capv) (.slice al ll cl) out l from by rw [hle]; exact hns
          have hlb : l.length ≤ 100001 := by rw [← hle]; omega
          have HPT : Hid (Puts e.n out l k b) := hput
          by_cases hkl : k < nl
          · obtain ⟨x, hx⟩ : ∃ x, out[k]? = some x := ⟨_, List.getElem?_eq_getElem (by rw [← HNL.out]; exact hkl)⟩
            obtain ⟨g0, hg0, q0⟩ : ∃ g0, aov = some ⟨g0, 0, none⟩ ∧ wr.cell? ⟨g0, k, none⟩ = some (.string ⟨x.toArray⟩) := by
              obtain ⟨_, _, e, _, _, h⟩ := own_read hns.ro
              cases e
              obtain ⟨g, e, _, _, h4⟩ := h (by rw [← HNL.out]; omega)
              exact ⟨g, e, h4 k _ (by rw [List.getElem?_map, hx]; rfl)⟩
            subst hg0
            have HX : Hid (out[k]? = some x) := hx
            clear hns hput hx hle hcl
            cases b with
            | true =>
              obtain ⟨v1, w1, hr1, hs1⟩ := HNS.out.app x (by omega)
              have HR1 : Hid _ := hr1
              have HS1 : Hid _ := hs1
              have HPU : Hid _ := HPT.out.next HX.out
              clear hr1 hs1
              go_wp2_with (at_builtin; refine wpList_runs rfl _ _ 147 rfl rfl rfl HR1.out ?_)
              go_roundw
              case rel => exact ⟨k + 1, _, _, true, rfl, by omega, rfl, by go_num, HS1.out, HPU.out⟩
              case measure => simp [intOf]; omega
            | false =>
              by_cases hn : nlt x e.n = true
              · have hbl : Op.bytesLess x e.n = true := hn
                have HLN : Hid (nlt x e.n = true) := hn
                clear hn
                obtain ⟨v1, w1, hr1, hs1⟩ := HNS.out.app x (by omega)
                have HR1 : Hid _ := hr1
                have HS1 : Hid _ := hs1
                have HPU : Hid _ := HPT.out.less HX.out HLN.out
                clear hr1 hs1
                go_wp2_with (at_builtin; refine wpList_runs rfl _ _ 147 rfl rfl rfl HR1.out ?_)
                go_roundw
                case rel => exact ⟨k + 1, _, _, false, rfl, by omega, rfl, by go_num, HS1.out, HPU.out⟩
                case measure => simp [intOf]; omega
              · replace hn : nlt x e.n = false := by simpa using hn
                have hbl : Op.bytesLess x e.n = false := hn
                have HLN : Hid (nlt x e.n = false) := hn
                clear hn
                by_cases he : x = e.n
                · subst he
                  obtain ⟨v1, w1, hr1, hs1⟩ := HNS.out.app e.n (by omega)
                  have HR1 : Hid _ := hr1
                  have HS1 : Hid _ := hs1
                  have HPU : Hid _ := HPT.out.same HX.out
                  have q1 := hs1.cell HX.out
                  clear hr1 hs1
                  go_wp2_with (at_builtin; refine wpList_runs rfl _ _ 147 rfl rfl rfl HR1.out ?_)
                  go_roundw
                  case rel => exact ⟨k + 1, _, _, true, rfl, by omega, rfl, by go_num, HS1.out, HPU.out⟩
                  case measure => simp [intOf]; omega
                · obtain ⟨v1, w1, hr1, hs1⟩ := HNS.out.app e.n (by omega)
                  obtain ⟨v2, w2, hr2, hs2⟩ := hs1.app x (by simp; omega)
                  have q1 := hs1.cell HX.out
                  have HR1 : Hid _ := hr1
                  have HR2 : Hid _ := hr2
                  have HS2 : Hid _ := hs2
                  have HPU : Hid _ := HPT.out.more HX.out HLN.out he
                  have heb : (x == e.n) = false := by simpa using he
                  clear hr1 hs1 hr2 hs2 he
                  go_wp2_with (at_builtin; first | refine wpList_runs rfl _ _ 147 rfl rfl rfl HR1.out ?_ | refine wpList_runs rfl _ _ 147 rfl rfl rfl HR2.out ?_)
                  go_roundw
                  case rel => exact ⟨k + 1, _, _, true, rfl, by omega, rfl, by go_num, HS2.out, HPU.out⟩
                  case measure => simp [intOf]; omega
          · obtain rfl : k = nl := by omega
            clear hle hcl hns hput
            cases b with
            | true =>
              have HFI : Hid (l = insN e.n out) := show _ = _ from by
                have h : l ++ out.drop k = insN e.n out := HPT.out
                rwa [HNL.out, List.drop_length, List.append_nil] at h
              go_wp2_with fail
              go_roundw
              case rel => exact ⟨j + 1, _, rfl, by omega, by go_num, by rw [HT.out, ← HFI.out, ← HLL.out]; have := HNS.out.rl; rwa [← HLL.out] at this, HNS.out.bel⟩
              case measure => simp [intOf]; omega
            | false =>
              have HFI : Hid (l ++ [e.n] = insN e.n out) := show _ = _ from by
                have h := HPT.out.2
                rw [h, HPT.out.1, HNL.out, List.drop_length]
                rfl
              obtain ⟨v1, w1, hr1, hs1⟩ := HNS.out.app e.n (by omega)
              have HR1 : Hid _ := hr1
              have HS1 : Hid _ := hs1
              clear hr1 hs1
              go_wp2_with (at_builtin; refine wpList_runs rfl _ _ 147 rfl rfl rfl HR1.out ?_)
              go_roundw
              case rel => exact ⟨j + 1, _, rfl, by omega, by go_num, by rw [HT.out, ← HFI.out]; exact HS1.out.rl, HS1.out.bel⟩
              case measure => simp [intOf]; omega
      · have HT : Hid (nmsL r (A.take (j + 1)) = out) := show _ = _ from by rw [HS.out, if_neg k1]
        replace k1 : (e.r == r) = false := by simpa using k1
        clear HS
        go_wp2_with fail
        go_roundw
        case rel => exact ⟨j + 1, _, rfl, by omega, by go_num, by rw [HT.out, ← HNL.out]; exact HRW.out, HBL.out⟩
        case measure => simp [intOf]; omega
    · have hjm : A.take j = A := List.take_of_length_le (by rw [← HM.out]; omega)
      rw [hjm] at hrow
      have HRW : Hid (World.ownsRow wr w.heap.size 9 1 u (nmsL r A).length ((nmsL r A).map sV)) := hrow
      have HB : Hid _ := hbel
      clear hrow hbel hjm
      go_wp2_with fail
      go_ret
      exact ⟨_, rfl, HRW.out, HB.out⟩
end Go.Proofs.YtnphkmdanicemaaGreatDoor
