import Derived.Test.YtjojhhkbebddmaaR11
namespace Go.Proofs.Ytjojhhkbebddmaa
open Go.RowKit Go.PlainAid
set_option linter.unusedVariables false
set_option linter.unusedSimpArgs false
set_option maxRecDepth 100000 in
set_option maxHeartbeats 6400000 in
theorem rlook_1 {L : Nat} {g : RG} {x : EV} {r : RV} (l r' h er ek S : Int) (qn qa : Bool) (w : World) (hM : RM L g r w) (ha : Agr x r) (hx : x.Nm) (hE : liveE x x.me = ⟨er, ek⟩) (hS : sumH x.hd 16 = S) (hqn : r.need = qn) (hqa : allB x = qa) (d1 : (er == 0) = true) : Calls Try.prog 51 #[.pointer (some ⟨g.rb, 0, none⟩), .int .i64 l, .int .i64 r', .int .i64 h] w fun e w' => ∃ v, e = .returned v ∧ w'.ownsRow w.heap.size 117 6 v ([] : List Ac).length (flatA []) ∧ Below w.heap.size w w' := by
  have HM : Hid _ := hM
  have hsb := sumH_bd hx.hd 16
  rw [hS] at hsb
  have HO : Hid (Calls Try.prog 46 #[.pointer (some ⟨g.rb, 0, none⟩)] w fun e w' => e = .returned (epV ⟨er, ek⟩) ∧ Below w.heap.size w w') := show Calls Try.prog 46 #[.pointer (some ⟨g.rb, 0, none⟩)] w fun e w' => e = .returned (epV ⟨er, ek⟩) ∧ Below w.heap.size w w' from by rw [← hE]; exact rown_any w hM ha hx
  have HR : Hid (∀ W, Below w.heap.size w W → Calls Try.prog 74 #[.pointer (some ⟨g.rb, 0, none⟩)] W fun e w' => e = .returned (.int .i64 S) ∧ Below W.heap.size W w') := fun W hW => by rw [← hS]; exact rreported_any W (hM.more hW) ha hx
  have HAL : Hid (∀ W, Below w.heap.size w W → Calls Try.prog 75 #[.pointer (some ⟨g.rb, 0, none⟩)] W fun e w' => e = .returned (.bool qa) ∧ Below W.heap.size W w') := fun W hW => by rw [← hqa]; exact rall_any W (hM.more hW) ha hx
  have HC : Hid (∀ W, Below w.heap.size w W → W.cell? ⟨g.rb, 5, none⟩ = some (.bool qn) ∧ W.cell? ⟨g.rb, 0, none⟩ = some (.int .i64 (x.me : Int))) := fun W hW => ⟨by rw [← hqn]; exact (hM.more hW).c5, by rw [← ha.me]; exact (hM.more hW).c0⟩
  clear hM ha hx hE hS hqn hqa
  unfold epV at *
  go_enter Try.func51, Try.ntmps51
  go_upto_region 2 with (first
    | (go_at_call 46; refine Calls.mono HO.out ?_; rintro e w1 ⟨rfl, hb1⟩)
    | fail)
  have hB : Blk (w1.alloc (.cells #[.int .i64 er, .int .i64 ek] 49)) w1.heap.size #[.int .i64 er, .int .i64 ek] 49 := heap_alloc_new w1 _
  have hbb : Below w.heap.size w (w1.alloc (.cells #[.int .i64 er, .int .i64 ek] 49)) := bal hb1 (Nat.le_refl _) _
  obtain ⟨q, hq⟩ : ∃ q, q = w1.heap.size := ⟨_, rfl⟩
  generalize w1.alloc (.cells #[.int .i64 er, .int .i64 ek] 49) = W at *
  rw [← hq] at hB
  try rw [← hq]
  have p0 := hB.cell 0
  have p1 := hB.cell 1
  have HBB : Hid _ := hbb
  have HB0 : Hid (Blk W q #[.int .i64 er, .int .i64 ek] 49) := hB
  obtain ⟨c5, c0⟩ := HC.out _ hbb
  clear hB hbb hb1 hq HO
  go_wp2_with (first
    | fail)
  go_ret
  exact ⟨_, rfl, World.ownsRow_nil _ _ _ _, HBB.out⟩
set_option maxRecDepth 100000 in
set_option maxHeartbeats 6400000 in
theorem rlook_2 {L : Nat} {g : RG} {x : EV} {r : RV} (l r' h er ek S : Int) (qn qa : Bool) (w : World) (hM : RM L g r w) (ha : Agr x r) (hx : x.Nm) (hE : liveE x x.me = ⟨er, ek⟩) (hS : sumH x.hd 16 = S) (hqn : r.need = qn) (hqa : allB x = qa) (d1 : (er == 0) = false) (d2 : cnts l r' h = false) : Calls Try.prog 51 #[.pointer (some ⟨g.rb, 0, none⟩), .int .i64 l, .int .i64 r', .int .i64 h] w fun e w' => ∃ v, e = .returned v ∧ w'.ownsRow w.heap.size 117 6 v ([] : List Ac).length (flatA []) ∧ Below w.heap.size w w' := by
  have HM : Hid _ := hM
  have hsb := sumH_bd hx.hd 16
  rw [hS] at hsb
  have HO : Hid (Calls Try.prog 46 #[.pointer (some ⟨g.rb, 0, none⟩)] w fun e w' => e = .returned (epV ⟨er, ek⟩) ∧ Below w.heap.size w w') := show Calls Try.prog 46 #[.pointer (some ⟨g.rb, 0, none⟩)] w fun e w' => e = .returned (epV ⟨er, ek⟩) ∧ Below w.heap.size w w' from by rw [← hE]; exact rown_any w hM ha hx
  have HR : Hid (∀ W, Below w.heap.size w W → Calls Try.prog 74 #[.pointer (some ⟨g.rb, 0, none⟩)] W fun e w' => e = .returned (.int .i64 S) ∧ Below W.heap.size W w') := fun W hW => by rw [← hS]; exact rreported_any W (hM.more hW) ha hx
  have HAL : Hid (∀ W, Below w.heap.size w W → Calls Try.prog 75 #[.pointer (some ⟨g.rb, 0, none⟩)] W fun e w' => e = .returned (.bool qa) ∧ Below W.heap.size W w') := fun W hW => by rw [← hqa]; exact rall_any W (hM.more hW) ha hx
  have HC : Hid (∀ W, Below w.heap.size w W → W.cell? ⟨g.rb, 5, none⟩ = some (.bool qn) ∧ W.cell? ⟨g.rb, 0, none⟩ = some (.int .i64 (x.me : Int))) := fun W hW => ⟨by rw [← hqn]; exact (hM.more hW).c5, by rw [← ha.me]; exact (hM.more hW).c0⟩
  have HRT : Hid (∀ W, Calls Try.prog 67 #[.int .i64 l, .int .i64 r', .int .i64 h] W fun e w' => e = .returned (.bool false) ∧ w' = W) := fun W => by rw [← d2]; exact right_any l r' h W
  clear hM ha hx hE hS hqn hqa
  unfold epV at *
  go_enter Try.func51, Try.ntmps51
  go_upto_region 2 with (first
    | (go_at_call 46; refine Calls.mono HO.out ?_; rintro e w1 ⟨rfl, hb1⟩)
    | fail)
  have hB : Blk (w1.alloc (.cells #[.int .i64 er, .int .i64 ek] 49)) w1.heap.size #[.int .i64 er, .int .i64 ek] 49 := heap_alloc_new w1 _
  have hbb : Below w.heap.size w (w1.alloc (.cells #[.int .i64 er, .int .i64 ek] 49)) := bal hb1 (Nat.le_refl _) _
  obtain ⟨q, hq⟩ : ∃ q, q = w1.heap.size := ⟨_, rfl⟩
  generalize w1.alloc (.cells #[.int .i64 er, .int .i64 ek] 49) = W at *
  rw [← hq] at hB
  try rw [← hq]
  have p0 := hB.cell 0
  have p1 := hB.cell 1
  have HBB : Hid _ := hbb
  have HB0 : Hid (Blk W q #[.int .i64 er, .int .i64 ek] 49) := hB
  obtain ⟨c5, c0⟩ := HC.out _ hbb
  clear hB hbb hb1 hq HO
  go_wp2_with (first
    | (go_at_call 67; refine Calls.mono (HRT.out _) ?_; rintro e w2 ⟨rfl, hw2⟩; replace hw2 := hw2.symm; subst hw2)
    | fail)
  go_ret
  exact ⟨_, rfl, World.ownsRow_nil _ _ _ _, HBB.out⟩
set_option maxRecDepth 100000 in
set_option maxHeartbeats 6400000 in
theorem rlook_3 {L : Nat} {g : RG} {x : EV} {r : RV} (l r' h er ek S : Int) (qn qa : Bool) (w : World) (hM : RM L g r w) (ha : Agr x r) (hx : x.Nm) (hE : liveE x x.me = ⟨er, ek⟩) (hS : sumH x.hd 16 = S) (hqn : r.need = qn) (hqa : allB x = qa) (d1 : (er == 0) = false) (d2 : cnts l r' h = true) (d3 : ((r' + h + S) != l) = true) : Calls Try.prog 51 #[.pointer (some ⟨g.rb, 0, none⟩), .int .i64 l, .int .i64 r', .int .i64 h] w fun e w' => ∃ v, e = .returned v ∧ w'.ownsRow w.heap.size 117 6 v ([] : List Ac).length (flatA []) ∧ Below w.heap.size w w' := by
  have HM : Hid _ := hM
  have hsb := sumH_bd hx.hd 16
  rw [hS] at hsb
  have HO : Hid (Calls Try.prog 46 #[.pointer (some ⟨g.rb, 0, none⟩)] w fun e w' => e = .returned (epV ⟨er, ek⟩) ∧ Below w.heap.size w w') := show Calls Try.prog 46 #[.pointer (some ⟨g.rb, 0, none⟩)] w fun e w' => e = .returned (epV ⟨er, ek⟩) ∧ Below w.heap.size w w' from by rw [← hE]; exact rown_any w hM ha hx
  have HR : Hid (∀ W, Below w.heap.size w W → Calls Try.prog 74 #[.pointer (some ⟨g.rb, 0, none⟩)] W fun e w' => e = .returned (.int .i64 S) ∧ Below W.heap.size W w') := fun W hW => by rw [← hS]; exact rreported_any W (hM.more hW) ha hx
  have HAL : Hid (∀ W, Below w.heap.size w W → Calls Try.prog 75 #[.pointer (some ⟨g.rb, 0, none⟩)] W fun e w' => e = .returned (.bool qa) ∧ Below W.heap.size W w') := fun W hW => by rw [← hqa]; exact rall_any W (hM.more hW) ha hx
  have HC : Hid (∀ W, Below w.heap.size w W → W.cell? ⟨g.rb, 5, none⟩ = some (.bool qn) ∧ W.cell? ⟨g.rb, 0, none⟩ = some (.int .i64 (x.me : Int))) := fun W hW => ⟨by rw [← hqn]; exact (hM.more hW).c5, by rw [← ha.me]; exact (hM.more hW).c0⟩
  have HRT : Hid (∀ W, Calls Try.prog 67 #[.int .i64 l, .int .i64 r', .int .i64 h] W fun e w' => e = .returned (.bool true) ∧ w' = W) := fun W => by rw [← d2]; exact right_any l r' h W
  obtain ⟨⟨l1, l2⟩, ⟨r1, r2⟩, ⟨h1, h2⟩⟩ := cnts_bd d2
  obtain ⟨s1, s2⟩ := hsb
  have s3 : S ≤ 17592186044416 := by omega
  clear hM ha hx hE hS hqn hqa
  unfold epV at *
  go_enter Try.func51, Try.ntmps51
  go_upto_region 2 with (first
    | (go_at_call 46; refine Calls.mono HO.out ?_; rintro e w1 ⟨rfl, hb1⟩)
    | fail)
  have hB : Blk (w1.alloc (.cells #[.int .i64 er, .int .i64 ek] 49)) w1.heap.size #[.int .i64 er, .int .i64 ek] 49 := heap_alloc_new w1 _
  have hbb : Below w.heap.size w (w1.alloc (.cells #[.int .i64 er, .int .i64 ek] 49)) := bal hb1 (Nat.le_refl _) _
  obtain ⟨q, hq⟩ : ∃ q, q = w1.heap.size := ⟨_, rfl⟩
  generalize w1.alloc (.cells #[.int .i64 er, .int .i64 ek] 49) = W at *
  rw [← hq] at hB
  try rw [← hq]
  have p0 := hB.cell 0
  have p1 := hB.cell 1
  have HBB : Hid _ := hbb
  have HB0 : Hid (Blk W q #[.int .i64 er, .int .i64 ek] 49) := hB
  obtain ⟨c5, c0⟩ := HC.out _ hbb
  clear hB hbb hb1 hq HO
  go_wp2_with (first
    | (go_at_call 67; refine Calls.mono (HRT.out _) ?_; rintro e w2 ⟨rfl, hw2⟩; replace hw2 := hw2.symm; subst hw2)
    | (go_at_call 74; refine Calls.mono (HR.out _ HBB.out) ?_; rintro e w3 ⟨rfl, hb3⟩; have HB3 : Hid _ := bgo HBB.out hb3 (Nat.le_refl _); obtain ⟨c5, c0⟩ := HC.out _ HB3.out; have HQ3 : Hid (Blk w3 q #[.int .i64 er, .int .i64 ek] 49) := Blk.up (w := W) HB0.out hb3; have p0 := HQ3.out.cell 0; have p1 := HQ3.out.cell 1; clear hb3)
    | fail)
  go_ret
  exact ⟨_, rfl, World.ownsRow_nil _ _ _ _, HB3.out⟩
set_option maxRecDepth 100000 in
set_option maxHeartbeats 6400000 in
theorem rlook_4 {L : Nat} {g : RG} {x : EV} {r : RV} (l r' h er ek S : Int) (qn qa : Bool) (w : World) (hM : RM L g r w) (ha : Agr x r) (hx : x.Nm) (hE : liveE x x.me = ⟨er, ek⟩) (hS : sumH x.hd 16 = S) (hqn : r.need = qn) (hqa : allB x = qa) (d1 : (er == 0) = false) (d2 : cnts l r' h = true) (d3 : r' + h + S = l) (d4 : qn = true) (d5 : qa = false) : Calls Try.prog 51 #[.pointer (some ⟨g.rb, 0, none⟩), .int .i64 l, .int .i64 r', .int .i64 h] w fun e w' => ∃ v, e = .returned v ∧ w'.ownsRow w.heap.size 117 6 v ([] : List Ac).length (flatA []) ∧ Below w.heap.size w w' := by
  have HM : Hid _ := hM
  have hsb := sumH_bd hx.hd 16
  rw [hS] at hsb
  have HO : Hid (Calls Try.prog 46 #[.pointer (some ⟨g.rb, 0, none⟩)] w fun e w' => e = .returned (epV ⟨er, ek⟩) ∧ Below w.heap.size w w') := show Calls Try.prog 46 #[.pointer (some ⟨g.rb, 0, none⟩)] w fun e w' => e = .returned (epV ⟨er, ek⟩) ∧ Below w.heap.size w w' from by rw [← hE]; exact rown_any w hM ha hx
  have HR : Hid (∀ W, Below w.heap.size w W → Calls Try.prog 74 #[.pointer (some ⟨g.rb, 0, none⟩)] W fun e w' => e = .returned (.int .i64 S) ∧ Below W.heap.size W w') := fun W hW => by rw [← hS]; exact rreported_any W (hM.more hW) ha hx
  have HAL : Hid (∀ W, Below w.heap.size w W → Calls Try.prog 75 #[.pointer (some ⟨g.rb, 0, none⟩)] W fun e w' => e = .returned (.bool qa) ∧ Below W.heap.size W w') := fun W hW => by rw [← hqa]; exact rall_any W (hM.more hW) ha hx
  have HC : Hid (∀ W, Below w.heap.size w W → W.cell? ⟨g.rb, 5, none⟩ = some (.bool qn) ∧ W.cell? ⟨g.rb, 0, none⟩ = some (.int .i64 (x.me : Int))) := fun W hW => ⟨by rw [← hqn]; exact (hM.more hW).c5, by rw [← ha.me]; exact (hM.more hW).c0⟩
  have HRT : Hid (∀ W, Calls Try.prog 67 #[.int .i64 l, .int .i64 r', .int .i64 h] W fun e w' => e = .returned (.bool true) ∧ w' = W) := fun W => by rw [← d2]; exact right_any l r' h W
  obtain ⟨⟨l1, l2⟩, ⟨r1, r2⟩, ⟨h1, h2⟩⟩ := cnts_bd d2
  obtain ⟨s1, s2⟩ := hsb
  have s3 : S ≤ 17592186044416 := by omega
  have hd3 : ((r' + h + S) != l) = false := by simp [d3]
  have HD3 : Hid _ := d3
  subst d4 d5
  clear d3
  clear hM ha hx hE hS hqn hqa
  unfold epV at *
  go_enter Try.func51, Try.ntmps51
  go_upto_region 2 with (first
    | (go_at_call 46; refine Calls.mono HO.out ?_; rintro e w1 ⟨rfl, hb1⟩)
    | fail)
  have hB : Blk (w1.alloc (.cells #[.int .i64 er, .int .i64 ek] 49)) w1.heap.size #[.int .i64 er, .int .i64 ek] 49 := heap_alloc_new w1 _
  have hbb : Below w.heap.size w (w1.alloc (.cells #[.int .i64 er, .int .i64 ek] 49)) := bal hb1 (Nat.le_refl _) _
  obtain ⟨q, hq⟩ : ∃ q, q = w1.heap.size := ⟨_, rfl⟩
  generalize w1.alloc (.cells #[.int .i64 er, .int .i64 ek] 49) = W at *
  rw [← hq] at hB
  try rw [← hq]
  have p0 := hB.cell 0
  have p1 := hB.cell 1
  have HBB : Hid _ := hbb
  have HB0 : Hid (Blk W q #[.int .i64 er, .int .i64 ek] 49) := hB
  obtain ⟨c5, c0⟩ := HC.out _ hbb
  clear hB hbb hb1 hq HO
  go_wp2_with (first
    | (go_at_call 67; refine Calls.mono (HRT.out _) ?_; rintro e w2 ⟨rfl, hw2⟩; replace hw2 := hw2.symm; subst hw2)
    | (go_at_call 74; refine Calls.mono (HR.out _ HBB.out) ?_; rintro e w3 ⟨rfl, hb3⟩; have HB3 : Hid _ := bgo HBB.out hb3 (Nat.le_refl _); obtain ⟨c5, c0⟩ := HC.out _ HB3.out; have HQ3 : Hid (Blk w3 q #[.int .i64 er, .int .i64 ek] 49) := Blk.up (w := W) HB0.out hb3; have p0 := HQ3.out.cell 0; have p1 := HQ3.out.cell 1; clear hb3)
    | (go_at_call 75; refine Calls.mono (HAL.out _ HB3.out) ?_; rintro e w4 ⟨rfl, hb4⟩; have HB4 : Hid _ := bgo HB3.out hb4 (Nat.le_refl _); obtain ⟨c5, c0⟩ := HC.out _ HB4.out; have HQ4 : Hid (Blk w4 q #[.int .i64 er, .int .i64 ek] 49) := Blk.up (w := w3) HQ3.out hb4; have p0 := HQ4.out.cell 0; have p1 := HQ4.out.cell 1; clear hb4)
    | fail)
  go_ret
  exact ⟨_, rfl, World.ownsRow_nil _ _ _ _, HB4.out⟩
set_option maxRecDepth 100000 in
set_option maxHeartbeats 6400000 in
theorem rlook_5 {L : Nat} {g : RG} {x : EV} {r : RV} (l r' h er ek S : Int) (qn qa : Bool) (w : World) (hM : RM L g r w) (ha : Agr x r) (hx : x.Nm) (hE : liveE x x.me = ⟨er, ek⟩) (hS : sumH x.hd 16 = S) (hqn : r.need = qn) (hqa : allB x = qa) (d1 : (er == 0) = false) (d2 : cnts l r' h = true) (d3 : r' + h + S = l) (d4 : qn = true) (d5 : qa = true) : Calls Try.prog 51 #[.pointer (some ⟨g.rb, 0, none⟩), .int .i64 l, .int .i64 r', .int .i64 h] w fun e w' => ∃ v, e = .returned v ∧ w'.ownsRow w.heap.size 117 6 v ([⟨4, x.me, ⟨er, ek⟩, e0⟩] : List Ac).length (flatA [⟨4, x.me, ⟨er, ek⟩, e0⟩]) ∧ Below w.heap.size w w' := by
  have HM : Hid _ := hM
  have hsb := sumH_bd hx.hd 16
  rw [hS] at hsb
  have HO : Hid (Calls Try.prog 46 #[.pointer (some ⟨g.rb, 0, none⟩)] w fun e w' => e = .returned (epV ⟨er, ek⟩) ∧ Below w.heap.size w w') := show Calls Try.prog 46 #[.pointer (some ⟨g.rb, 0, none⟩)] w fun e w' => e = .returned (epV ⟨er, ek⟩) ∧ Below w.heap.size w w' from by rw [← hE]; exact rown_any w hM ha hx
  have HR : Hid (∀ W, Below w.heap.size w W → Calls Try.prog 74 #[.pointer (some ⟨g.rb, 0, none⟩)] W fun e w' => e = .returned (.int .i64 S) ∧ Below W.heap.size W w') := fun W hW => by rw [← hS]; exact rreported_any W (hM.more hW) ha hx
  have HAL : Hid (∀ W, Below w.heap.size w W → Calls Try.prog 75 #[.pointer (some ⟨g.rb, 0, none⟩)] W fun e w' => e = .returned (.bool qa) ∧ Below W.heap.size W w') := fun W hW => by rw [← hqa]; exact rall_any W (hM.more hW) ha hx
  have HC : Hid (∀ W, Below w.heap.size w W → W.cell? ⟨g.rb, 5, none⟩ = some (.bool qn) ∧ W.cell? ⟨g.rb, 0, none⟩ = some (.int .i64 (x.me : Int))) := fun W hW => ⟨by rw [← hqn]; exact (hM.more hW).c5, by rw [← ha.me]; exact (hM.more hW).c0⟩
  have HRT : Hid (∀ W, Calls Try.prog 67 #[.int .i64 l, .int .i64 r', .int .i64 h] W fun e w' => e = .returned (.bool true) ∧ w' = W) := fun W => by rw [← d2]; exact right_any l r' h W
  obtain ⟨⟨l1, l2⟩, ⟨r1, r2⟩, ⟨h1, h2⟩⟩ := cnts_bd d2
  obtain ⟨s1, s2⟩ := hsb
  have s3 : S ≤ 17592186044416 := by omega
  have hd3 : ((r' + h + S) != l) = false := by simp [d3]
  have HD3 : Hid _ := d3
  subst d4 d5
  clear d3
  clear hM ha hx hE hS hqn hqa
  unfold epV at *
  go_enter Try.func51, Try.ntmps51
  go_upto_region 2 with (first
    | (go_at_call 46; refine Calls.mono HO.out ?_; rintro e w1 ⟨rfl, hb1⟩)
    | fail)
  have hB : Blk (w1.alloc (.cells #[.int .i64 er, .int .i64 ek] 49)) w1.heap.size #[.int .i64 er, .int .i64 ek] 49 := heap_alloc_new w1 _
  have hbb : Below w.heap.size w (w1.alloc (.cells #[.int .i64 er, .int .i64 ek] 49)) := bal hb1 (Nat.le_refl _) _
  obtain ⟨q, hq⟩ : ∃ q, q = w1.heap.size := ⟨_, rfl⟩
  generalize w1.alloc (.cells #[.int .i64 er, .int .i64 ek] 49) = W at *
  rw [← hq] at hB
  try rw [← hq]
  have p0 := hB.cell 0
  have p1 := hB.cell 1
  have HBB : Hid _ := hbb
  have HB0 : Hid (Blk W q #[.int .i64 er, .int .i64 ek] 49) := hB
  obtain ⟨c5, c0⟩ := HC.out _ hbb
  clear hB hbb hb1 hq HO
  go_upto_region 4 with (first
    | (go_at_call 67; refine Calls.mono (HRT.out _) ?_; rintro e w2 ⟨rfl, hw2⟩; replace hw2 := hw2.symm; subst hw2)
    | (go_at_call 74; refine Calls.mono (HR.out _ HBB.out) ?_; rintro e w3 ⟨rfl, hb3⟩; have HB3 : Hid _ := bgo HBB.out hb3 (Nat.le_refl _); obtain ⟨c5, c0⟩ := HC.out _ HB3.out; have HQ3 : Hid (Blk w3 q #[.int .i64 er, .int .i64 ek] 49) := Blk.up (w := W) HB0.out hb3; have p0 := HQ3.out.cell 0; have p1 := HQ3.out.cell 1; clear hb3)
    | (go_at_call 75; refine Calls.mono (HAL.out _ HB3.out) ?_; rintro e w4 ⟨rfl, hb4⟩; have HB4 : Hid _ := bgo HB3.out hb4 (Nat.le_refl _); obtain ⟨c5, c0⟩ := HC.out _ HB4.out; have HQ4 : Hid (Blk w4 q #[.int .i64 er, .int .i64 ek] 49) := Blk.up (w := w3) HQ3.out hb4; have p0 := HQ4.out.cell 0; have p1 := HQ4.out.cell 1; clear hb4)
    | fail)
  go_region
  all_goals
    go_wp2_with fail
    go_ret
    have hr := lit_row w4 [⟨4, x.me, ⟨er, ek⟩, e0⟩] _ rfl (by simp) 1 rfl
    have hbz : Below w4.heap.size w4 (w4.alloc (.cells (flatA [⟨4, x.me, ⟨er, ek⟩, e0⟩]).toArray 117)).drew := ((Below.refl _ _).alloc (Nat.le_refl _) _).drew
    exact ⟨_, rfl, ownsRow_mono (w := (w4.alloc (.cells (flatA [⟨4, x.me, ⟨er, ek⟩, e0⟩]).toArray 117)).drew) hr HB4.out.size, bgo HB4.out hbz (Nat.le_refl _)⟩
set_option maxRecDepth 100000 in
set_option maxHeartbeats 6400000 in
theorem rlook_6 {L : Nat} {g : RG} {x : EV} {r : RV} (l r' h er ek S : Int) (qn qa : Bool) (w : World) (hM : RM L g r w) (ha : Agr x r) (hx : x.Nm) (hE : liveE x x.me = ⟨er, ek⟩) (hS : sumH x.hd 16 = S) (hqn : r.need = qn) (hqa : allB x = qa) (d1 : (er == 0) = false) (d2 : cnts l r' h = true) (d3 : r' + h + S = l) (d4 : qn = false) : Calls Try.prog 51 #[.pointer (some ⟨g.rb, 0, none⟩), .int .i64 l, .int .i64 r', .int .i64 h] w fun e w' => ∃ v, e = .returned v ∧ w'.ownsRow w.heap.size 117 6 v ([⟨4, x.me, ⟨er, ek⟩, e0⟩] : List Ac).length (flatA [⟨4, x.me, ⟨er, ek⟩, e0⟩]) ∧ Below w.heap.size w w' := by
  have HM : Hid _ := hM
  have hsb := sumH_bd hx.hd 16
  rw [hS] at hsb
  have HO : Hid (Calls Try.prog 46 #[.pointer (some ⟨g.rb, 0, none⟩)] w fun e w' => e = .returned (epV ⟨er, ek⟩) ∧ Below w.heap.size w w') := show Calls Try.prog 46 #[.pointer (some ⟨g.rb, 0, none⟩)] w fun e w' => e = .returned (epV ⟨er, ek⟩) ∧ Below w.heap.size w w' from by rw [← hE]; exact rown_any w hM ha hx
  have HR : Hid (∀ W, Below w.heap.size w W → Calls Try.prog 74 #[.pointer (some ⟨g.rb, 0, none⟩)] W fun e w' => e = .returned (.int .i64 S) ∧ Below W.heap.size W w') := fun W hW => by rw [← hS]; exact rreported_any W (hM.more hW) ha hx
  have HAL : Hid (∀ W, Below w.heap.size w W → Calls Try.prog 75 #[.pointer (some ⟨g.rb, 0, none⟩)] W fun e w' => e = .returned (.bool qa) ∧ Below W.heap.size W w') := fun W hW => by rw [← hqa]; exact rall_any W (hM.more hW) ha hx
  have HC : Hid (∀ W, Below w.heap.size w W → W.cell? ⟨g.rb, 5, none⟩ = some (.bool qn) ∧ W.cell? ⟨g.rb, 0, none⟩ = some (.int .i64 (x.me : Int))) := fun W hW => ⟨by rw [← hqn]; exact (hM.more hW).c5, by rw [← ha.me]; exact (hM.more hW).c0⟩
  have HRT : Hid (∀ W, Calls Try.prog 67 #[.int .i64 l, .int .i64 r', .int .i64 h] W fun e w' => e = .returned (.bool true) ∧ w' = W) := fun W => by rw [← d2]; exact right_any l r' h W
  obtain ⟨⟨l1, l2⟩, ⟨r1, r2⟩, ⟨h1, h2⟩⟩ := cnts_bd d2
  obtain ⟨s1, s2⟩ := hsb
  have s3 : S ≤ 17592186044416 := by omega
  have hd3 : ((r' + h + S) != l) = false := by simp [d3]
  have HD3 : Hid _ := d3
  subst d4
  clear d3
  clear hM ha hx hE hS hqn hqa
  unfold epV at *
  go_enter Try.func51, Try.ntmps51
  go_upto_region 2 with (first
    | (go_at_call 46; refine Calls.mono HO.out ?_; rintro e w1 ⟨rfl, hb1⟩)
    | fail)
  have hB : Blk (w1.alloc (.cells #[.int .i64 er, .int .i64 ek] 49)) w1.heap.size #[.int .i64 er, .int .i64 ek] 49 := heap_alloc_new w1 _
  have hbb : Below w.heap.size w (w1.alloc (.cells #[.int .i64 er, .int .i64 ek] 49)) := bal hb1 (Nat.le_refl _) _
  obtain ⟨q, hq⟩ : ∃ q, q = w1.heap.size := ⟨_, rfl⟩
  generalize w1.alloc (.cells #[.int .i64 er, .int .i64 ek] 49) = W at *
  rw [← hq] at hB
  try rw [← hq]
  have p0 := hB.cell 0
  have p1 := hB.cell 1
  have HBB : Hid _ := hbb
  have HB0 : Hid (Blk W q #[.int .i64 er, .int .i64 ek] 49) := hB
  obtain ⟨c5, c0⟩ := HC.out _ hbb
  clear hB hbb hb1 hq HO
  go_upto_region 4 with (first
    | (go_at_call 67; refine Calls.mono (HRT.out _) ?_; rintro e w2 ⟨rfl, hw2⟩; replace hw2 := hw2.symm; subst hw2)
    | (go_at_call 74; refine Calls.mono (HR.out _ HBB.out) ?_; rintro e w3 ⟨rfl, hb3⟩; have HB3 : Hid _ := bgo HBB.out hb3 (Nat.le_refl _); obtain ⟨c5, c0⟩ := HC.out _ HB3.out; have HQ3 : Hid (Blk w3 q #[.int .i64 er, .int .i64 ek] 49) := Blk.up (w := W) HB0.out hb3; have p0 := HQ3.out.cell 0; have p1 := HQ3.out.cell 1; clear hb3)
    | fail)
  go_region
  all_goals
    go_wp2_with fail
    go_ret
    have hr := lit_row w3 [⟨4, x.me, ⟨er, ek⟩, e0⟩] _ rfl (by simp) 1 rfl
    have hbz : Below w3.heap.size w3 (w3.alloc (.cells (flatA [⟨4, x.me, ⟨er, ek⟩, e0⟩]).toArray 117)).drew := ((Below.refl _ _).alloc (Nat.le_refl _) _).drew
    exact ⟨_, rfl, ownsRow_mono (w := (w3.alloc (.cells (flatA [⟨4, x.me, ⟨er, ek⟩, e0⟩]).toArray 117)).drew) hr HB3.out.size, bgo HB3.out hbz (Nat.le_refl _)⟩
theorem rlook_any {L : Nat} {g : RG} {x : EV} {r : RV} (l r' h : Int) (w : World) (hM : RM L g r w) (ha : Agr x r) (hx : x.Nm) : Calls Try.prog 51 #[.pointer (some ⟨g.rb, 0, none⟩), .int .i64 l, .int .i64 r', .int .i64 h] w fun e w' => ∃ v, e = .returned v ∧ w'.ownsRow w.heap.size 117 6 v (lookA x l r' h).length (flatA (lookA x l r' h)) ∧ Below w.heap.size w w' := by
  obtain ⟨er, ek, hE⟩ : ∃ er ek, liveE x x.me = ⟨er, ek⟩ := ⟨_, _, rfl⟩
  have hor := liveE_nn ha x.me
  unfold lookA hasB
  by_cases ho : liveE x x.me = e0
  · have d1 : (er == 0) = true := by
      have := congrArg Ep.r (hE.symm.trans ho)
      simpa [e0] using this
    rw [if_neg (by simp [ho])]
    exact rlook_1 l r' h er ek _ _ _ w hM ha hx hE rfl rfl rfl d1
  · have d1 : (er == 0) = false := by
      rcases hor with q | ⟨q, q2⟩
      · exact absurd q ho
      · have := congrArg Ep.r (hE.symm.trans q)
        simp only at this
        simp
        omega
    have hnd := (ha.rp ho).1
    rw [hE]
    rw [hE] at ho
    cases d2 : cnts l r' h
    · rw [if_neg (by simp)]
      exact rlook_2 l r' h er ek _ _ _ w hM ha hx hE rfl rfl rfl d1 d2
    · by_cases d3 : r' + h + sumH x.hd 16 = l
      · cases d4 : r.need
        · rw [d4] at hnd
          rw [if_pos (by simp [ho, hnd, d3])]
          exact rlook_6 l r' h er ek _ _ _ w hM ha hx hE rfl rfl rfl d1 d2 d3 d4
        · rw [d4] at hnd
          cases d5 : allB x
          · rw [if_neg (by simp [hnd])]
            exact rlook_4 l r' h er ek _ _ _ w hM ha hx hE rfl rfl rfl d1 d2 d3 d4 d5
          · rw [if_pos (by simp [ho, d3])]
            exact rlook_5 l r' h er ek _ _ _ w hM ha hx hE rfl rfl rfl d1 d2 d3 d4 d5
      · rw [if_neg (by simp [d3])]
        exact rlook_3 l r' h er ek _ _ _ w hM ha hx hE rfl rfl rfl d1 d2 (by simp [d3])
end Go.Proofs.Ytjojhhkbebddmaa
