import Derived.Test.YtaiknlnjahjeiaaNm1
import Derived.Deep.Cut
namespace Go.Proofs.Ytaiknlnjahjeiaa
open Go.RowKit Go.PlainAid Go.MapKept
set_option linter.unusedVariables false
set_option linter.unusedSimpArgs false
set_option maxRecDepth 100000 in
set_option maxHeartbeats 6400000 in
theorem played_4 {L0 kb K : Nat} {p : PR} {S : List RC} {bv : Value} {ts : List TD} {R : List (Ent L0)} (x : SA) (w : World) (h : Held (stE L0 kb p S bv ts R) w) (hL : L0 ≤ w.heap.size) (hk : p.Ok K S) (ht : TOk K ts) (hK : K ≤ 90000) (hkd : x.kd = 4) :
    Calls Try.prog 27 #[.pointer (some ⟨p.pb, 0, none⟩), .agg #[.int .i64 x.kd, .int .i64 x.who, .int .i64 x.nn, .int .i64 x.k, .string ⟨x.n.toArray⟩, .int .i64 x.A, .int .i64 x.B, .int .i64 x.e0, .int .i64 x.e1, .int .i64 x.e2, .int .i64 x.ek, .string ⟨x.en.toArray⟩, .int .i64 x.eA, .int .i64 x.eB, .int .i64 x.er, .int .i64 x.va]] w (PdPost L0 kb K p S R w) := by
  obtain ⟨sb, hsb⟩ : ∃ b, b = w.heap.size := ⟨_, rfl⟩
  obtain ⟨X, hX⟩ : ∃ X, X = w.alloc (.cells #[.int .i64 x.kd, .int .i64 x.who, .int .i64 x.nn, .int .i64 x.k, .string ⟨x.n.toArray⟩, .int .i64 x.A, .int .i64 x.B, .int .i64 x.e0, .int .i64 x.e1, .int .i64 x.e2, .int .i64 x.ek, .string ⟨x.en.toArray⟩, .int .i64 x.eA, .int .i64 x.eB, .int .i64 x.er, .int .i64 x.va] 78) := ⟨_, rfl⟩
  have hbX : Below w.heap.size w X := by rw [hX]; exact (Below.refl _ _).alloc (Nat.le_refl _) _
  have hBS : Blk X sb #[.int .i64 x.kd, .int .i64 x.who, .int .i64 x.nn, .int .i64 x.k, .string ⟨x.n.toArray⟩, .int .i64 x.A, .int .i64 x.B, .int .i64 x.e0, .int .i64 x.e1, .int .i64 x.e2, .int .i64 x.ek, .string ⟨x.en.toArray⟩, .int .i64 x.eA, .int .i64 x.eB, .int .i64 x.er, .int .i64 x.va] 78 := by rw [hX, hsb]; exact heap_alloc_new w _
  have HBX : Hid (Below L0 w X) := hbX.mono hL
  have HLX : Hid (L0 ≤ X.heap.size) := show L0 ≤ X.heap.size from Nat.le_trans hL hbX.size
  have hsl : L0 ≤ sb := by omega
  have HX : Hid (Held (stE L0 kb p S bv ts (boxE L0 sb #[.int .i64 x.kd, .int .i64 x.who, .int .i64 x.nn, .int .i64 x.k, .string ⟨x.n.toArray⟩, .int .i64 x.A, .int .i64 x.B, .int .i64 x.e0, .int .i64 x.e1, .int .i64 x.e2, .int .i64 x.ek, .string ⟨x.en.toArray⟩, .int .i64 x.eA, .int .i64 x.eB, .int .i64 x.er, .int .i64 x.va] 78 :: R)) X) := show Held (stE L0 kb p S bv ts (boxE L0 sb #[.int .i64 x.kd, .int .i64 x.who, .int .i64 x.nn, .int .i64 x.k, .string ⟨x.n.toArray⟩, .int .i64 x.A, .int .i64 x.B, .int .i64 x.e0, .int .i64 x.e1, .int .i64 x.e2, .int .i64 x.ek, .string ⟨x.en.toArray⟩, .int .i64 x.eA, .int .i64 x.eB, .int .i64 x.er, .int .i64 x.va] 78 :: R)) X from by
    have h1 := Held.fresh (e := boxE L0 sb #[.int .i64 x.kd, .int .i64 x.who, .int .i64 x.nn, .int .i64 x.k, .string ⟨x.n.toArray⟩, .int .i64 x.A, .int .i64 x.B, .int .i64 x.e0, .int .i64 x.e1, .int .i64 x.e2, .int .i64 x.ek, .string ⟨x.en.toArray⟩, .int .i64 x.eA, .int .i64 x.eB, .int .i64 x.er, .int .i64 x.va] 78) h hbX ⟨hBS, hsl⟩ (fun k hk => by have : k = sb := hk; omega)
    have h2 : (boxE L0 sb #[.int .i64 x.kd, .int .i64 x.who, .int .i64 x.nn, .int .i64 x.k, .string ⟨x.n.toArray⟩, .int .i64 x.A, .int .i64 x.B, .int .i64 x.e0, .int .i64 x.e1, .int .i64 x.e2, .int .i64 x.ek, .string ⟨x.en.toArray⟩, .int .i64 x.eA, .int .i64 x.eB, .int .i64 x.er, .int .i64 x.va] 78 :: stE L0 kb p S bv ts R).Perm (stE L0 kb p S bv ts (boxE L0 sb #[.int .i64 x.kd, .int .i64 x.who, .int .i64 x.nn, .int .i64 x.k, .string ⟨x.n.toArray⟩, .int .i64 x.A, .int .i64 x.B, .int .i64 x.e0, .int .i64 x.e1, .int .i64 x.e2, .int .i64 x.ek, .string ⟨x.en.toArray⟩, .int .i64 x.eA, .int .i64 x.eB, .int .i64 x.er, .int .i64 x.va] 78 :: R)) := by
      have : stE L0 kb p S bv ts R = (boxE L0 p.pb (p.cs kb) 76 :: amE L0 p.ab p.mb p.L :: rmE L0 p.rb p.v p.M :: lsE L0 p :: roE L0 S :: boxE L0 kb #[bv] 87 :: rowE L0 100 3 bv ts.length (flatT ts) :: ts.flatMap (TD.ents L0)) ++ R := by simp [stE]
      rw [this]
      have e2 : stE L0 kb p S bv ts (boxE L0 sb #[.int .i64 x.kd, .int .i64 x.who, .int .i64 x.nn, .int .i64 x.k, .string ⟨x.n.toArray⟩, .int .i64 x.A, .int .i64 x.B, .int .i64 x.e0, .int .i64 x.e1, .int .i64 x.e2, .int .i64 x.ek, .string ⟨x.en.toArray⟩, .int .i64 x.eA, .int .i64 x.eB, .int .i64 x.er, .int .i64 x.va] 78 :: R) = (boxE L0 p.pb (p.cs kb) 76 :: amE L0 p.ab p.mb p.L :: rmE L0 p.rb p.v p.M :: lsE L0 p :: roE L0 S :: boxE L0 kb #[bv] 87 :: rowE L0 100 3 bv ts.length (flatT ts) :: ts.flatMap (TD.ents L0)) ++ (boxE L0 sb #[.int .i64 x.kd, .int .i64 x.who, .int .i64 x.nn, .int .i64 x.k, .string ⟨x.n.toArray⟩, .int .i64 x.A, .int .i64 x.B, .int .i64 x.e0, .int .i64 x.e1, .int .i64 x.e2, .int .i64 x.ek, .string ⟨x.en.toArray⟩, .int .i64 x.eA, .int .i64 x.eB, .int .i64 x.er, .int .i64 x.va] 78 :: R) := by simp [stE]
      rw [e2]
      exact List.perm_middle.symm
    exact h1.perm h2
  have HOK : Hid (p.Ok K S) := hk
  have HT : Hid (TOk K ts) := ht
  have c0 : X.cell? ⟨sb, 0, none⟩ = some (.int .i64 x.kd) := hBS.cell 0
  have HBS : Hid (Blk X sb #[.int .i64 x.kd, .int .i64 x.who, .int .i64 x.nn, .int .i64 x.k, .string ⟨x.n.toArray⟩, .int .i64 x.A, .int .i64 x.B, .int .i64 x.e0, .int .i64 x.e1, .int .i64 x.e2, .int .i64 x.ek, .string ⟨x.en.toArray⟩, .int .i64 x.eA, .int .i64 x.eB, .int .i64 x.er, .int .i64 x.va] 78) := hBS
  clear h hk hbX hBS hsl ht
  rw [hkd] at c0
  clear hkd
  have HNM : Hid _ := names_p X HX.out HLX.out HOK.out HT.out hK
  go_enter Try.func27, Try.ntmps27
  go_upto_region 1 with fail
  rw [← hX, ← hsb]
  clear hX hsb
  go_wp2_with fail
  refine Calls.mono HNM.out ?_
  rintro e9 w1 ⟨p', S', bv', ts', rfl, h1, h2, h3, h4, h5, h6⟩
  have HF : Hid (PdPost L0 kb K p S R w (.returned (.bool true)) w1) := ⟨p', S', bv', ts', rfl, Held_dropR h1, h2, h3, h4, h5, HBX.out.trans h6⟩
  clear h1 h2 h3 h4 h5 h6 HNM
  go_wp2_with fail
  go_ret
  exact HF.out
structure SA.Ok (x : SA) : Prop where
  n : x.n.length ≤ 140737488355328
  en : x.en.length ≤ 140737488355328
  who : -9223372036854775808 ≤ x.who ∧ x.who ≤ 9223372036854775807
  nn : -9223372036854775808 ≤ x.nn ∧ x.nn ≤ 9223372036854775807
theorem played_any {L0 kb K : Nat} {p : PR} {S : List RC} {bv : Value} {ts : List TD} {R : List (Ent L0)} (x : SA) (w : World) (h : Held (stE L0 kb p S bv ts R) w) (hL : L0 ≤ w.heap.size) (hk : p.Ok K S) (ht : TOk K ts) (hK : K ≤ 90000) (hx : x.Ok) :
    Calls Try.prog 27 #[.pointer (some ⟨p.pb, 0, none⟩), .agg #[.int .i64 x.kd, .int .i64 x.who, .int .i64 x.nn, .int .i64 x.k, .string ⟨x.n.toArray⟩, .int .i64 x.A, .int .i64 x.B, .int .i64 x.e0, .int .i64 x.e1, .int .i64 x.e2, .int .i64 x.ek, .string ⟨x.en.toArray⟩, .int .i64 x.eA, .int .i64 x.eB, .int .i64 x.er, .int .i64 x.va]] w (PdPost L0 kb K p S R w) := by
  by_cases h1 : x.kd = 1
  · exact played_1 x w h hL hk ht hK h1 hx.n
  by_cases h2 : x.kd = 2
  · exact played_2 x w h hL hk ht hK h2 hx.en
  by_cases h3 : x.kd = 3
  · exact played_3 x w h hL hk ht hK h3
  by_cases h4 : x.kd = 4
  · exact played_4 x w h hL hk ht hK h4
  exact played_0 x w h hL hk ht hK h1 h2 h3 h4
set_option maxRecDepth 100000 in
theorem begun_any (w : World) : Calls Try.prog 25 #[] w fun e w' => ∃ p kb, e = .returned (.pointer (some ⟨p.pb, 0, none⟩)) ∧ (∀ L0, L0 ≤ w.heap.size → Held (stE L0 kb p [] (.slice none 0 0) [] []) w' ∧ ∀ k, has (stE L0 kb p [] (.slice none 0 0) [] []) k → w.heap.size ≤ k) ∧ p.Ok 0 [] ∧ p.L = [] ∧ Below w.heap.size w w' := by
  go_enter Try.func25, Try.ntmps25
  go_wp2_with fail
  refine Calls.mono (new_any w) ?_
  rintro e9 w1 ⟨rfl, hA, hb1⟩
  have HA : Hid (AM (w.heap.size + 1) w.heap.size [] w1) := hA
  have HB1 : Hid (Below w.heap.size w w1) := hb1
  clear hA hb1
  go_wp2_with fail
  refine Calls.mono (rnew_any w1) ?_
  rintro e9 w2 ⟨rfl, hw2⟩
  have hb2 : Below w1.heap.size w1 w2 := by rw [hw2]; exact (Below.refl _ _).alloc (Nat.le_refl _) _
  have hr2 : Blk w2 w1.heap.size #[.slice none 0 0] 90 := by rw [hw2]; exact heap_alloc_new w1 _
  have HB2 : Hid (Below w1.heap.size w1 w2) := hb2
  have HR2 : Hid (Blk w2 w1.heap.size #[.slice none 0 0] 90) := hr2
  obtain ⟨ab, hab⟩ : ∃ y, y = w.heap.size + 1 := ⟨_, rfl⟩
  obtain ⟨rb, hrb⟩ : ∃ y, y = w1.heap.size := ⟨_, rfl⟩
  obtain ⟨kb, hkb⟩ : ∃ y, y = w2.heap.size := ⟨_, rfl⟩
  obtain ⟨pb, hpb⟩ : ∃ y, y = w2.heap.size + 1 := ⟨_, rfl⟩
  obtain ⟨Y, hY⟩ : ∃ Y, Y = (w2.alloc (.cells #[.slice none 0 0] 87)).alloc (.cells #[.pointer (some ⟨ab, 0, none⟩), .pointer (some ⟨rb, 0, none⟩), .slice none 0 0, .pointer (some ⟨kb, 0, none⟩)] 76) := ⟨_, rfl⟩
  have hbY : Below w2.heap.size w2 Y := by rw [hY]; exact ((Below.refl _ _).alloc (Nat.le_refl _) _).alloc (by simp) _
  have hKY : Blk Y kb #[.slice none 0 0] 87 := by rw [hY, hkb]; exact blk_alloc (heap_alloc_new w2 _) _
  have hPY : Blk Y pb #[.pointer (some ⟨ab, 0, none⟩), .pointer (some ⟨rb, 0, none⟩), .slice none 0 0, .pointer (some ⟨kb, 0, none⟩)] 76 := by rw [hY, hpb]; have h := heap_alloc_new (w2.alloc (.cells #[.slice none 0 0] 87)) (.cells #[.pointer (some ⟨ab, 0, none⟩), .pointer (some ⟨rb, 0, none⟩), .slice none 0 0, .pointer (some ⟨kb, 0, none⟩)] 76); simp only [World.size_alloc] at h; exact h
  have s1 := HB1.out.size
  have s2 := hb2.size
  have a1 : ab < w1.heap.size := by rw [hab]; exact HA.out.box.lt
  have a2 : w.heap.size < w1.heap.size := HA.out.map.lt
  have a3 : rb < w2.heap.size := by rw [hrb]; exact hr2.lt
  have HF : Hid (∃ (p : PR) (kb : Nat), Value.pointer (some ⟨pb, 0, none⟩) = .pointer (some ⟨p.pb, 0, none⟩) ∧ (∀ L0, L0 ≤ w.heap.size → Held (stE L0 kb p [] (.slice none 0 0) [] []) Y ∧ ∀ k, has (stE L0 kb p [] (.slice none 0 0) [] []) k → w.heap.size ≤ k) ∧ p.Ok 0 [] ∧ p.L = [] ∧ Below w.heap.size w Y) := by
    refine ⟨⟨pb, ab, w.heap.size, [], rb, .slice none 0 0, [], .slice none 0 0, 0⟩, kb, rfl, fun L0 hL0 => ⟨⟨?_, ?_⟩, ?_⟩, ⟨AgM.nil, (fun c hc => by cases hc), Nat.le_refl _, Nat.le_refl _⟩, rfl, (HB1.out.trans (hb2.mono s1)).trans (hbY.mono (Nat.le_trans s1 s2))⟩
    · intro e he
      simp only [stE, List.flatMap_nil, List.nil_append, List.mem_cons, List.not_mem_nil, or_false] at he
      rcases he with rfl | rfl | rfl | rfl | rfl | rfl | rfl
      · exact ⟨hPY, show L0 ≤ pb by omega⟩
      · refine ⟨by rw [hab]; exact (HA.out.more hb2).more hbY, fun k hk => ?_⟩
        rcases hk with hk | hk | ⟨p, hp, _⟩
        · show L0 ≤ k
          have : k = ab := hk
          omega
        · have : k = w.heap.size := hk
          omega
        · cases hp
      · exact ⟨⟨by show Blk Y rb _ 90; rw [hrb]; exact HR2.out.below hbY HR2.out.lt, World.ownsRow_nil _ _ _ _⟩, show L0 ≤ rb by omega⟩
      · exact World.ownsRow_nil _ _ _ _
      · intro c hc
        cases hc
      · exact ⟨hKY, show L0 ≤ kb by omega⟩
      · exact World.ownsRow_nil _ _ _ _
    · simp only [stE, List.flatMap_nil, List.nil_append]
      have nils : ∀ k, ¬ (Value.slice none 0 0).ownBlock = some k := fun k hk => by cases hk
      refine List.pairwise_cons.2 ⟨fun e he k h1 h2 => ?_, List.pairwise_cons.2 ⟨fun e he k h1 h2 => ?_, List.pairwise_cons.2 ⟨fun e he k h1 h2 => ?_, List.pairwise_cons.2 ⟨fun e he k h1 h2 => absurd h1 (nils k), List.pairwise_cons.2 ⟨fun e he k h1 h2 => (by obtain ⟨c, hc, _⟩ := h1; cases hc), List.pairwise_cons.2 ⟨fun e he k h1 h2 => ?_, List.pairwise_singleton _ _⟩⟩⟩⟩⟩⟩
      · have hk : k = pb := h1
        simp only [List.mem_cons, List.not_mem_nil, or_false] at he
        rcases he with rfl | rfl | rfl | rfl | rfl | rfl
        · rcases h2 with h2 | h2 | ⟨p, hp, _⟩
          · have : k = ab := h2
            omega
          · have : k = w.heap.size := h2
            omega
          · cases hp
        · rcases h2 with h2 | h2
          · have : k = rb := h2
            omega
          · exact nils k h2
        · exact nils k h2
        · obtain ⟨c, hc, _⟩ := h2
          cases hc
        · have : k = kb := h2
          omega
        · exact nils k h2
      · have hk : k = ab ∨ k = w.heap.size := by
          rcases h1 with h1 | h1 | ⟨p, hp, _⟩
          · exact Or.inl h1
          · exact Or.inr h1
          · cases hp
        simp only [List.mem_cons, List.not_mem_nil, or_false] at he
        rcases he with rfl | rfl | rfl | rfl | rfl
        · rcases h2 with h2 | h2
          · have : k = rb := h2
            omega
          · exact nils k h2
        · exact nils k h2
        · obtain ⟨c, hc, _⟩ := h2
          cases hc
        · have : k = kb := h2
          omega
        · exact nils k h2
      · have hk : k = rb := by
          rcases h1 with h1 | h1
          · exact h1
          · exact absurd h1 (nils k)
        simp only [List.mem_cons, List.not_mem_nil, or_false] at he
        rcases he with rfl | rfl | rfl | rfl
        · exact nils k h2
        · obtain ⟨c, hc, _⟩ := h2
          cases hc
        · have : k = kb := h2
          omega
        · exact nils k h2
      · simp only [List.mem_cons, List.not_mem_nil, or_false] at he
        subst he
        exact nils k h2
    · rintro k ⟨e, he, hk⟩
      simp only [stE, List.flatMap_nil, List.nil_append, List.mem_cons, List.not_mem_nil, or_false] at he
      rcases he with rfl | rfl | rfl | rfl | rfl | rfl | rfl
      · have : k = pb := hk
        omega
      · rcases hk with hk | hk | ⟨p, hp, _⟩
        · have : k = ab := hk
          omega
        · have : k = w.heap.size := hk
          omega
        · cases hp
      · rcases hk with hk | hk
        · have : k = rb := hk
          omega
        · cases hk
      · cases hk
      · obtain ⟨c, hc, _⟩ := hk
        cases hc
      · have : k = kb := hk
        omega
      · cases hk
  have HE : Hid (pb = w2.heap.size + 1 ∧ kb = w2.heap.size ∧ rb = w1.heap.size ∧ ab = w.heap.size + 1 ∧ Y = (w2.alloc (.cells #[.slice none 0 0] 87)).alloc (.cells #[.pointer (some ⟨ab, 0, none⟩), .pointer (some ⟨rb, 0, none⟩), .slice none 0 0, .pointer (some ⟨kb, 0, none⟩)] 76)) := ⟨hpb, hkb, hrb, hab, hY⟩
  clear hw2 hb2 hr2 hbY hKY hPY s1 s2 a1 a2 a3 hpb hkb hrb hab hY
  go_wp2_with fail
  rw [← HE.out.1, ← HE.out.2.1, ← HE.out.2.2.1, ← HE.out.2.2.2.1, ← HE.out.2.2.2.2]
  go_ret
  obtain ⟨p, kb2, e1, e2⟩ := HF.out
  exact ⟨p, kb2, by rw [← e1]; rfl, e2⟩
end Go.Proofs.Ytaiknlnjahjeiaa
