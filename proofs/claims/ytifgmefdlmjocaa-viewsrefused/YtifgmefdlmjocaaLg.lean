import Derived.Test.YtifgmefdlmjocaaSta
import Derived.Test.YtifgmefdlmjocaaKn
namespace Go.Proofs.Ytifgmefdlmjocaa
open Go.RowKit Go.PlainAid
set_option linter.unusedVariables false
set_option linter.unusedSimpArgs false
/-- What has been said so far: by replica r, of the four names. -/
structure LIr (r : Int) (k : Nat) (L : List Ent) : Prop where
  r : ∀ e ∈ L, e.r = r
  nm : ∀ e ∈ L, ∃ j, j < 4 ∧ e.n = nm4 j
  v : ∀ e ∈ L, 1 ≤ e.v ∧ e.v ≤ k
  ok : ∀ e ∈ L, e.right = true
  nd : NDn L
theorem LIr.len {r : Int} {k : Nat} {L : List Ent} (h : LIr r k L) : L.length ≤ 4 := by
  have := len_four L h.nm
  have a := cnt_one (nm4 0) h.nd
  have b := cnt_one (nm4 1) h.nd
  have c := cnt_one (nm4 2) h.nd
  have d := cnt_one (nm4 3) h.nd
  omega
theorem said_rightR (r : Int) {j : Nat} (hj : j < 4) {v d u h : Int} (hv : 1 ≤ v) (hd : 0 ≤ d ∧ d < 31) (hu : 0 ≤ u ∧ u < 31) (hh : 0 ≤ h ∧ h < 31) : Ent.right ⟨r, nm4 j, 100, 0, v, d, u, h⟩ = true := said_right hj hv hd hu hh
theorem LIr.code {r : Int} {k : Nat} {L : List Ent} (h : LIr r k L) {j : Nat} (hj : j < 4) {d u hh : Int} (hd : 0 ≤ d ∧ d < 31) (hu : 0 ≤ u ∧ u < 31) (hhh : 0 ≤ hh ∧ hh < 31) : tellCode r L ⟨r, nm4 j, 100, 0, 1, d, u, hh⟩ = 0 := by
  have hr := said_rightR r hj (v := 1) (by decide) hd hu hhh
  have hc := cntR_le r L
  have hl := h.len
  unfold tellCode
  rw [if_neg (by rw [hr]; simp)]
  split
  · rfl
  · rw [if_neg (by omega)]
theorem LIr.next {r : Int} {k : Nat} {L : List Ent} (h : LIr r k L) {j : Nat} (hj : j < 4) {d u hh : Int} (hd : 0 ≤ d ∧ d < 31) (hu : 0 ≤ u ∧ u < 31) (hhh : 0 ≤ hh ∧ hh < 31) :
    LIr r (k + 1) (tellNext r L ⟨r, nm4 j, 100, 0, 1, d, u, hh⟩) ∧ ∀ e ∈ L, ∃ e' ∈ tellNext r L ⟨r, nm4 j, 100, 0, 1, d, u, hh⟩, e'.n = e.n ∧ e.v ≤ e'.v := by
  have hr := said_rightR r hj (v := 1) (by decide) hd hu hhh
  have up : LIr r (k + 1) L := ⟨h.r, h.nm, fun e he => ⟨(h.v e he).1, by have := (h.v e he).2; omega⟩, h.ok, h.nd⟩
  have key : ∀ v : Int, 1 ≤ v → v ≤ (k : Int) + 1 → (∀ e ∈ L, e.n = nm4 j → e.v ≤ v) → LIr r (k + 1) (putE ⟨r, nm4 j, 100, 0, v, d, u, hh⟩ L) ∧ ∀ e ∈ L, ∃ e' ∈ putE ⟨r, nm4 j, 100, 0, v, d, u, hh⟩ L, e'.n = e.n ∧ e.v ≤ e'.v := fun v v1 v2 hold => by
    refine ⟨⟨fun e he => ?_, fun e he => ?_, fun e he => ?_, fun e he => ?_, h.nd.put (fun x hx => h.r x hx)⟩, fun e he => ?_⟩
    · rcases mem_putE he with rfl | he
      · rfl
      · exact h.r e he
    · rcases mem_putE he with rfl | he
      · exact ⟨j, hj, rfl⟩
      · exact h.nm e he
    · rcases mem_putE he with rfl | he
      · exact ⟨v1, by show v ≤ _; omega⟩
      · exact up.v e he
    · rcases mem_putE he with rfl | he
      · exact said_rightR r hj v1 hd hu hhh
      · exact h.ok e he
    · rcases putE_old (e := ⟨r, nm4 j, 100, 0, v, d, u, hh⟩) he with h1 | ⟨_, h1⟩
      · exact ⟨e, h1, rfl, Int.le_refl _⟩
      · exact ⟨_, putE_mem _ L, h1.symm, hold e he h1⟩
  unfold tellNext
  rw [if_neg (by rw [hr]; simp)]
  split
  · rename_i hs
    split
    · exact ⟨up, fun e he => ⟨e, he, rfl, Int.le_refl _⟩⟩
    · obtain ⟨l0, hl0⟩ := Option.isSome_iff_exists.1 hs
      have hm := List.mem_of_find?_eq_some hl0
      have hlD : lookD r (nm4 j) L = l0 := by unfold lookD; rw [hl0]; rfl
      have hk := isK_iff.1 (List.find?_some hl0)
      have hv := h.v l0 hm
      simp only [hlD]
      refine key (l0.v + 1) (by omega) (by omega) (fun e he hen => ?_)
      have := look_of h.nd he
      rw [h.r e he, hen] at this
      have e2 : look r (nm4 j) L = some l0 := hl0
      rw [e2] at this
      cases this
      omega
  · rename_i hs
    split
    · exact ⟨up, fun e he => ⟨e, he, rfl, Int.le_refl _⟩⟩
    · refine key 1 (by decide) (by omega) (fun e he hen => ?_)
      have := look_of h.nd he
      rw [h.r e he, hen] at this
      exact absurd (by rw [this]; rfl) hs
theorem LIr.zero {k : Nat} {L : List Ent} (h : LIr 0 k L) : LI k L := ⟨h.r, h.nm, h.v, h.ok, h.nd⟩
theorem LIr.nil (r : Int) : LIr r 0 [] := ⟨(fun e h => by cases h), (fun e h => by cases h), (fun e h => by cases h), (fun e h => by cases h), List.Pairwise.nil⟩
theorem LIr.up {r : Int} {k : Nat} {L : List Ent} (h : LIr r k L) : LIr r (k + 1) L := ⟨h.r, h.nm, fun e he => ⟨(h.v e he).1, by have := (h.v e he).2; omega⟩, h.ok, h.nd⟩
/-- The talk behind k steps. -/
def GRel (L tb vr vc n : Nat) (hb mb : Nat → Nat) (W : World) (k : Nat) (wr : World) : Prop := ∃ LV hv Hs, TG L tb vr vc n hb mb LV hv Hs (.slice none 0 0) wr ∧ (∀ i, i < n → LIr (i : Int) k (LV i)) ∧ (∀ j, j < 32 → (Hs j).length ≤ k) ∧ Below W.heap.size W wr
theorem hadNext_len (l : List Ent) (e : Ent) : (hadNext l e).length ≤ l.length + 1 := by
  unfold hadNext
  split
  · simp
  · split
    · omega
    · simp
theorem takeF_newR : ∀ (rest A : List Ent) (m : Nat), NDn rest → (∀ e ∈ rest, e.r = 0 ∧ 1 ≤ e.v) → (∀ x ∈ A, x.r = 0 → ∀ e ∈ rest, x.n ≠ e.n) → rest.foldl (takeStep 0) (A, m) = (A ++ rest, m + rest.length)
  | [], A, m, _, _, _ => by simp
  | e :: t, A, m, hd, hr, hA => by
    have he := hr e (by simp)
    have hno : look 0 e.n A = none := look_none (fun x hx => by
      by_cases h0 : x.r = 0
      · exact Or.inl (hA x hx h0 e (by simp))
      · exact Or.inr h0)
    have hst : takeStep 0 (A, m) e = (A ++ [e], m + 1) := by
      unfold takeStep
      have hz : (lookD 0 e.n A).v = 0 := by unfold lookD; rw [hno]; rfl
      simp only
      rw [if_pos (by rw [hz]; omega)]
      have e0 : ({ e with r := 0 } : Ent) = e := by
        obtain ⟨er, en, ec, erc, ev, ed, eu, eh⟩ := e
        have := he.1
        simp only at this
        rw [this]
      rw [e0, putE_end (by rw [he.1]; exact hno)]
    unfold NDn at hd
    rw [List.pairwise_cons] at hd
    rw [List.foldl_cons, hst, takeF_newR t (A ++ [e]) (m + 1) hd.2 (fun x hx => hr x (List.mem_cons_of_mem _ hx)) (fun x hx h0 y hy => by
      rcases List.mem_append.1 hx with hx | hx
      · exact hA x hx h0 y (List.mem_cons_of_mem _ hy)
      · simp at hx
        subst hx
        exact hd.1 y hy)]
    simp
    omega
/-- A digest of replica 0 comes to replica 1, which has told of its own alone. -/
theorem take_firstR {n k : Nat} (hn : 2 ≤ n) {M L dl : List Ent} (hM : LIr 1 k M) (h : Dg0 k L dl) : takeCode 1 n 0 M dl = 0 ∧ takeNext 1 n 0 M dl = (M ++ dl, dl.length) := by
  have hc := take_code (n := n) hn (M := M) hM.len h.len h.dig
  refine ⟨hc, ?_⟩
  unfold takeNext
  rw [if_pos hc]
  have := takeF_newR dl M 0 h.nd (fun e he => ⟨(h.r e he).1, (h.r e he).2.1⟩) (fun x hx h0 => by have := hM.r x hx; omega)
  simpa [takeF] using this
/-- .. with one among them that is not right. -/
theorem take_bad {n : Nat} (hn : 2 ≤ n) {M es : List Ent} {b : Ent} (hb : b ∈ es) (hr : b.right = false) (hl : es.length ≤ 64) : takeCode 1 n 0 M es = 1 ∧ takeNext 1 n 0 M es = (M, 0) := by
  have hd : dgB es = false := by
    cases h : dgB es with
    | false => rfl
    | true => exact absurd ((dgB_iff.1 h).1 b hb) (by rw [hr]; simp)
  have hc : takeCode 1 n 0 M es = 1 := by
    unfold takeCode
    rw [if_neg (by omega), if_neg (by omega), if_pos hd]
  refine ⟨hc, ?_⟩
  unfold takeNext
  rw [if_neg (by rw [hc]; decide)]
theorem bad_right (e : Ent) (h : e.v ≤ 0) : e.right = false := by
  unfold Ent.right
  have : decide (1 ≤ e.v) = false := by simp; omega
  rw [this]
  simp
theorem known_zero {n k : Nat} {M : List Ent} (hM : LIr 1 k M) (nm : List UInt8) (hn : 0 < n) : (knownL nm M n)[0]? = some (0, 0) := by
  unfold knownL
  rw [List.getElem?_map, List.getElem?_range hn]
  have : look 0 nm M = none := look_none (fun x hx => Or.inr (by have := hM.r x hx; omega))
  simp [lookD, this, zed]
theorem step_relG {L tb vr vc n q : Nat} {hb mb : Nat → Nat} {W wr : World} (s : SayA) (hR : GRel L tb vr vc n hb mb W q wr) (hLW : W.heap.size ≤ L) (hn : 2 ≤ n ∧ n ≤ 8) (hq : q ≤ 1000) (rg : i64 s.nm ∧ i64 s.d ∧ i64 s.u ∧ i64 s.h) (rw' : i64 s.w) :
    Calls Try.prog 12 #[.pointer (some ⟨tb, 0, none⟩), .agg #[.int .i64 0, .int .i64 s.w, .int .i64 s.a, .int .i64 s.nm, .int .i64 s.d, .int .i64 s.u, .int .i64 s.h]] (wr.alloc (.cells #[.int .i64 0, .int .i64 s.w, .int .i64 s.a, .int .i64 s.nm, .int .i64 s.d, .int .i64 s.u, .int .i64 s.h] 29)) fun e w' => e = .returned (.bool true) ∧ GRel L tb vr vc n hb mb W (q + 1) w' := by
  obtain ⟨LV, hv, Hs, hT, hLI, hHs, hbel⟩ := hR
  have hg : Below wr.heap.size wr (wr.alloc (.cells #[.int .i64 0, .int .i64 s.w, .int .i64 s.a, .int .i64 s.nm, .int .i64 s.d, .int .i64 s.u, .int .i64 s.h] 29)) := (Below.refl _ _).alloc (Nat.le_refl _) _
  have hj := wx_in s.nm 4 (by decide)
  have hj4 : (wx s.nm 4).toNat < 4 := by omega
  have a1 := wx_in s.d 31 (by decide)
  have a2 := wx_in s.u 31 (by decide)
  have a3 := wx_in s.h 31 (by decide)
  have a4 := wx_in s.w (n : Int) (by omega)
  obtain ⟨r, hr⟩ : ∃ r : Nat, wx s.w (n : Int) = r := ⟨(wx s.w (n : Int)).toNat, by omega⟩
  have hrn : r < n := by omega
  have hT2 := hT.more hg
  have hl := hLI r hrn
  refine (stepA_any s.w s.a s.nm s.d s.u s.h _ hT2 hn hrn hr (by have := hl.len; omega) (fun e he => by have := hl.v e he; omega) (fun k hk => by have := hHs k hk; omega) ⟨rg.1, rg.2.1, rg.2.2.1, rg.2.2.2, rw'⟩ (hl.code hj4 a1 a2 a3)).mono ?_
  rintro e w' ⟨rfl, hc, hv', hT', ha'⟩
  obtain ⟨n1, n2⟩ := hl.next hj4 a1 a2 a3
  refine ⟨rfl, _, hv', _, hT', fun i hi => ?_, fun j hj => ?_, (hbel.trans (hg.mono hbel.size)).trans ((hT2.tb' hrn hc).mono hLW)⟩
  · unfold updL
    split
    · rename_i e
      subst e
      exact n1
    · exact (hLI i hi).up
  · unfold updL
    split
    · rename_i e
      rw [e] at hj
      have := hHs _ hj
      have := hadNext_len (Hs (r * 4 + (wx s.nm 4).toNat)) ⟨0, nm4 (wx s.nm 4).toNat, 100, 0, 0, wx s.d 31, wx s.u 31, wx s.h 31⟩
      omega
    · have := hHs j hj
      omega
end Go.Proofs.Ytifgmefdlmjocaa
