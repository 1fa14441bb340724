import Derived.Test.YtjojhhkbebddmaaL5
import Derived.Test.YtjojhhkbebddmaaMixF
namespace Go.Proofs.Ytjojhhkbebddmaa
open Go.RowKit Go.PlainAid
set_option linter.unusedVariables false
set_option linter.unusedSimpArgs false
set_option maxRecDepth 100000 in
theorem lit95 {a : Act} {f : Nat → Value} (h : Fr 95 a f) : a = { tmps := #[f 0, f 1, f 2, f 3, f 4, f 5, f 6, f 7, f 8, f 9, f 10, f 11, f 12, f 13, f 14, f 15, f 16, f 17, f 18, f 19, f 20, f 21, f 22, f 23, f 24, f 25, f 26, f 27, f 28, f 29, f 30, f 31, f 32, f 33, f 34, f 35, f 36, f 37, f 38, f 39, f 40, f 41, f 42, f 43, f 44, f 45, f 46, f 47, f 48, f 49, f 50, f 51, f 52, f 53, f 54, f 55, f 56, f 57, f 58, f 59, f 60, f 61, f 62, f 63, f 64, f 65, f 66, f 67, f 68, f 69, f 70, f 71, f 72, f 73, f 74, f 75, f 76, f 77, f 78, f 79, f 80, f 81, f 82, f 83, f 84, f 85, f 86, f 87, f 88, f 89, f 90, f 91, f 92, f 93, f 94], defers := [] } := by
  rw [h.lit]; rfl
set_option maxRecDepth 100000 in
set_option maxHeartbeats 12800000 in
theorem looks_1 {σ : Type} {L kb pb mb cb : Nat} {K : Keeper σ L kb} {hK : KFr K} {s : σ} {x : EV} {g : RG} {r : RV} {R : List (Ent L)} {own0 : Nat → Prop} {w0 : World} (er ek tr tk S : Int) (qa : Bool) (w : World) (h : AS own0 w0 (pES K hK s pb mb cb x g r R) w) (ha : Agr x r) (hx : x.Nm) (hL : L ≤ w.heap.size) (hw0 : w0.heap.size ≤ w.heap.size) (hc : K.cnt s ≤ 1000000000000) (hE : liveE x x.me = ⟨er, ek⟩) (hT : tgtE x x.n = ⟨tr, tk⟩) (hS : sumH x.hd 16 = S) (hqa : allB x = qa) (h1 : 0 < er) : Calls Try.prog 55 #[.pointer (some ⟨pb, 0, none⟩), .pointer (some ⟨kb, 0, none⟩)] w fun e w' => e = .returned (.bool true) ∧ ∃ s', AS own0 w0 (pES K hK s' pb mb cb x g r R) w' ∧ K.cnt s' ≤ K.cnt s + 18 := by
  have hn2 := hx.n.2
  have hme : x.me < 16 := by have := hx.me; omega
  have HX : Hid _ := hx
  have HA : Hid _ := ha
  have HL0 : Hid _ := live_list w (pES.mm h) hn2
  have HS0 : Hid (AS own0 w0 (pES K hK s pb mb cb x g r R) w) := h
  obtain ⟨c0, c1⟩ := pES.cl h
  have hll := liveL_len x x.n
  have HLL : Hid ((liveL x x.n).length ≤ 1000000) := show (liveL x x.n).length ≤ 1000000 from by omega
  have HOWN : Hid (∀ {s : σ} {W : World}, AS own0 w0 (pES K hK s pb mb cb x g r R) W → Calls Try.prog 46 #[.pointer (some ⟨g.rb, 0, none⟩)] W fun e w' => e = .returned (epV ⟨er, ek⟩) ∧ Below W.heap.size W w') := fun {s W} h => by rw [← hE]; exact rown_any W (pES.rm h) ha hx
  have HFR : Hid (∀ {s : σ} {W : World}, AS own0 w0 (pES K hK s pb mb cb x g r R) W → Calls Try.prog 19 #[.pointer (some ⟨mb, 0, none⟩)] W fun e w' => e = .returned (.bool (!decide ((⟨tr, tk⟩ : Ep) = e0))) ∧ Below W.heap.size W w') := fun {s W} h => by rw [← hT]; exact frozen_any W (pES.mm h) hn2
  have HRF : Hid (∀ {s : σ} {W : World}, AS own0 w0 (pES K hK s pb mb cb x g r R) W → Calls Try.prog 68 #[.pointer (some ⟨g.rb, 0, none⟩)] W fun e w' => e = .returned (.bool (!decide ((⟨tr, tk⟩ : Ep) = e0))) ∧ Below W.heap.size W w') := fun {s W} h => by rw [← hT]; exact rfrozen_any W (pES.rm h) ha hx
  have HTG : Hid (∀ {s : σ} {W : World}, AS own0 w0 (pES K hK s pb mb cb x g r R) W → Calls Try.prog 35 #[.pointer (some ⟨mb, 0, none⟩)] W fun e w' => e = .returned (epV ⟨tr, tk⟩) ∧ Below W.heap.size W w') := fun {s W} h => by rw [← hT]; exact target_any W (pES.mm h) hn2
  have HRT : Hid (∀ {s : σ} {W : World}, AS own0 w0 (pES K hK s pb mb cb x g r R) W → Calls Try.prog 70 #[.pointer (some ⟨g.rb, 0, none⟩)] W fun e w' => e = .returned (epV ⟨tr, tk⟩) ∧ Below W.heap.size W w') := fun {s W} h => by rw [← hT]; exact rtarget_any W (pES.rm h) ha hx
  have HPO : Hid (∀ {s : σ} {W : World}, AS own0 w0 (pES K hK s pb mb cb x g r R) W → Calls Try.prog 22 #[.pointer (some ⟨mb, 0, none⟩)] W fun e w' => e = .returned (epV ⟨er, ek⟩) ∧ Below W.heap.size W w') := fun {s W} h => by rw [← hE]; exact own_any W (pES.mm h) hme
  have HAL : Hid (∀ {s : σ} {W : World}, AS own0 w0 (pES K hK s pb mb cb x g r R) W → Calls Try.prog 58 #[.pointer (some ⟨mb, 0, none⟩)] W fun e w' => e = .returned (.bool qa) ∧ w' = W) := fun {s W} h => by rw [← hqa]; exact all_any W (pES.mm h) hn2
  have HRA : Hid (∀ {s : σ} {W : World}, AS own0 w0 (pES K hK s pb mb cb x g r R) W → Calls Try.prog 75 #[.pointer (some ⟨g.rb, 0, none⟩)] W fun e w' => e = .returned (.bool qa) ∧ Below W.heap.size W w') := fun {s W} h => by rw [← hqa]; exact rall_any W (pES.rm h) ha hx
  have HRP : Hid (∀ {s : σ} {W : World}, AS own0 w0 (pES K hK s pb mb cb x g r R) W → Calls Try.prog 59 #[.pointer (some ⟨mb, 0, none⟩)] W fun e w' => e = .returned (.int .i64 S) ∧ w' = W) := fun {s W} h => by rw [← hS]; exact reported_any W (pES.mm h) hx.hd
  have HRR : Hid (∀ {s : σ} {W : World}, AS own0 w0 (pES K hK s pb mb cb x g r R) W → Calls Try.prog 74 #[.pointer (some ⟨g.rb, 0, none⟩)] W fun e w' => e = .returned (.int .i64 S) ∧ Below W.heap.size W w') := fun {s W} h => by rw [← hS]; exact rreported_any W (pES.rm h) ha hx
  have he1 : ∀ W, (binOp .eql 49 (.agg #[.int .i64 tr, .int .i64 tk]) (.agg #[.int .i64 tr, .int .i64 tk])).run Try.prog W = .ok (.bool true) W := fun W => by rw [eql49]; simp [sameE]
  have he2 : ∀ W, (binOp .eql 49 (.agg #[.int .i64 er, .int .i64 ek]) (.agg #[.int .i64 er, .int .i64 ek])).run Try.prog W = .ok (.bool true) W := fun W => by rw [eql49]; simp [sameE]
  generalize (!decide ((⟨tr, tk⟩ : Ep) = e0)) = qf at *
  clear h ha hx hn2 hme hll hE hT hS hqa
  unfold epV at *
  go_enter Try.func55, Try.ntmps55
  go_upto_region 4 with (first
    | (go_at_call 25; refine Calls.mono HL0.out ?_; rintro e w1 ⟨v1, rfl, ho1, hb1⟩; have HS1 : Hid (AS own0 w0 (rowE L 49 2 v1 (liveL x x.n).length (flatE (liveL x x.n)) :: pES K hK s pb mb cb x g r R) w1) := (HS0.out.more hb1).row (fun k hk => .inl (HS0.out.h.typ hk).2) hw0 hL ho1; have HB1 : Hid _ := hb1; obtain ⟨c0, c1⟩ := pES.cl HS1.out.drop; clear hb1)
    | (go_at_call 66; refine Calls.mono (rlive_any _ (pES.rm HS1.out.drop) HA.out HX.out) ?_; rintro e w2 ⟨v2, rfl, ho2, hb2⟩; have HS2 : Hid _ := HS1.out.more hb2; have HO2 : Hid _ := ho2; clear hb2 ho2)
    | (go_at_call 78; refine Calls.mono (sameEps_any _ (show w2.ownsRow L 49 2 v1 _ _ from HS2.out.head) HO2.out) ?_; rintro e w3 ⟨rfl, z, rfl⟩; have HS3 : Hid (AS own0 w0 (rowE L 49 2 v1 (liveL x x.n).length (flatE (liveL x x.n)) :: pES K hK s pb mb cb x g r R) (w2.drewN z)) := HS2.out.more (below_drewN (Below.refl _ _) z))
    | (go_at_call 79; refine Calls.mono (pES.putE HS3.out HLL.out hc) ?_; rintro e w4 ⟨rfl, s2, hs4, hc4⟩; have HS : Hid (AS own0 w0 (pES K hK s2 pb mb cb x g r R) w4) := hs4; have HC4 : Hid _ := hc4; obtain ⟨c0, c1⟩ := pES.cl hs4; clear hs4 hc4)
    | fail)
  go_upto_region 5 with (first
    | (go_at_call 46; refine Calls.mono (HOWN.out HS.out) ?_; rintro e w5 ⟨rfl, hb5⟩; obtain ⟨c0, c1⟩ := pES.cl (HS.out.more hb5); have hlt := (pES.bx (HS.out.more hb5)).lt)
    | fail)
  obtain ⟨p7, hp7⟩ : ∃ p, p = w5.heap.size := ⟨_, rfl⟩
  have HS5 : Hid (AS own0 w0 (pES K hK s2 pb mb cb x g r R) (w5.alloc (.cells #[.int .i64 er, .int .i64 ek] 49))) := (HS.out.more hb5).more ((Below.refl _ _).alloc (Nat.le_refl _) _)
  have HQ : Hid (Blk (w5.alloc (.cells #[.int .i64 er, .int .i64 ek] 49)) p7 #[.int .i64 er, .int .i64 ek] 49) := show Blk _ _ _ _ from by rw [hp7]; exact heap_alloc_new w5 _
  generalize w5.alloc (.cells #[.int .i64 er, .int .i64 ek] 49) = W at *
  try rw [← hp7]
  have HCX : Hid (∀ W2, AS own0 w0 (pES K hK s2 pb mb cb x g r R) W2 → Below W.heap.size W W2 → W2.cell? ⟨pb, 0, none⟩ = some (.pointer (some ⟨mb, 0, none⟩)) ∧ W2.cell? ⟨pb, 1, none⟩ = some (.pointer (some ⟨g.rb, 0, none⟩)) ∧ Blk W2 p7 #[.int .i64 er, .int .i64 ek] 49) := fun W2 h1 h2 => ⟨(pES.cl h1).1, (pES.cl h1).2, Blk.up (w := W) HQ.out h2⟩
  clear hb5 hp7 HS c0 c1 hlt
  rename_i K1 hK1
  try rw [show ∀ a : Act, a.put none undef = a from fun _ => rfl]
  have hB0 : Below W.heap.size W ({ W with drawn := W.drawn + 1 } : World) := (Below.refl _ _).drew
  have HS0 : Hid (AS own0 w0 (pES K hK s2 pb mb cb x g r R) ({ W with drawn := W.drawn + 1 } : World)) := HS5.out.more hB0
  refine wp_region_mixF (fun wz : World => wz.cell? ⟨pb, 0, none⟩ = some (.pointer (some ⟨mb, 0, none⟩)) ∧ wz.cell? ⟨pb, 1, none⟩ = some (.pointer (some ⟨g.rb, 0, none⟩)) ∧ Blk wz p7 #[.int .i64 er, .int .i64 ek] 49) (fun i => i == 6 || i == 11 || i == 19 || i == 24 || i == 32 || i == 41 || i == 50 || i == 59 || i == 64 || i == 67) 67 [0, 1, 2, 6, 10, 18, 34, 2, 130, 258, 514, 1090, 2114, 4098, 10240, 16384, 49152, 81920, 147456, 278528, 16384, 1064960, 2113536, 4210688, 8929280, 17317888, 33570816, 83886080, 134217728, 402653184, 671088640, 1207959552, 2281701376, 134217728, 13019119616, 17314086912, 38654705664, 68719476736, 206158430208, 343597383680, 618475290624, 1168231104512, 68719476736, 4466765987840, 8864812498944, 19859928776704, 35184372088832, 105553116266496, 175921860444160, 316659348799488, 598134325510144, 1161152998408192, 2254067556417536, 4503668346847232, 10133099161583616, 18014398509481984, 54043195528445952, 90071992547409920, 162129586585337856, 306244774661193728, 18014398509481984, 1170935903116328960, 2323857407723175936, 4629700416936869888, 9817847187667681280, 19041219224522457088, 36911502545928585216, 147573952589676412927] (by kernel_rfl) (by kernel_rfl) rfl (of_decide_eq_true (by kernel_rfl)) (by kernel_rfl) (by kernel_rfl) (by kernel_rfl) ?_
  refine withFrL (N := 95) rfl ?_
  intro a0 f0 F0 hff
  have d0 : f0 0 = Value.pointer (some ⟨pb, 0, none⟩) := hff 0
  have d7 : f0 7 = Value.pointer (some ⟨p7, 0, none⟩) := hff 7
  have d6 : f0 6 = Value.bool true := hff 6
  clear hff
  refine lk1_0 (qf := qf) (S := S) (er := er) (ek := ek) (tr := tr) (tk := tk) (p7 := p7) (qa := qa) (K := K) (hK := hK) (s2 := s2) (W := W) ⟨trivial, ⟨rfl, rfl, rfl⟩, ⟨rfl, rfl, rfl⟩, ⟨rfl, rfl, rfl⟩, ⟨rfl, rfl, rfl⟩, ⟨rfl, rfl, rfl⟩, ⟨rfl, rfl, rfl⟩, ⟨rfl, rfl, rfl⟩, ⟨rfl, rfl, rfl⟩, ⟨rfl, rfl, rfl⟩, ⟨rfl, rfl, rfl⟩, ⟨rfl, rfl, rfl⟩, ⟨rfl, rfl, rfl⟩, ⟨rfl, rfl, rfl⟩, ⟨rfl, rfl, rfl⟩, rfl⟩ HCX (fun {W} q => HFR.out q) (fun {W} q => HRF.out q) he1 he2 _ _ _ F0 d0 d7 d6 HS0 hB0 ?_
  intro a1 f1 u1 F1 x1 y1 z1 HS1 hB1
  refine lk1_1 (qf := qf) (S := S) (er := er) (ek := ek) (tr := tr) (tk := tk) (p7 := p7) (qa := qa) (K := K) (hK := hK) (s2 := s2) (W := W) ⟨trivial, ⟨rfl, rfl, rfl⟩, ⟨rfl, rfl, rfl⟩, ⟨rfl, rfl, rfl⟩, ⟨rfl, rfl, rfl⟩, ⟨rfl, rfl, rfl⟩, ⟨rfl, rfl, rfl⟩, ⟨rfl, rfl, rfl⟩, ⟨rfl, rfl, rfl⟩, ⟨rfl, rfl, rfl⟩, ⟨rfl, rfl, rfl⟩, ⟨rfl, rfl, rfl⟩, ⟨rfl, rfl, rfl⟩, ⟨rfl, rfl, rfl⟩, rfl⟩ HCX (fun {W} q => HTG.out q) (fun {W} q => HRT.out q) he1 he2 _ _ _ F1 x1 y1 z1 HS1 hB1 ?_
  intro a2 f2 u2 F2 x2 y2 z2 HS2 hB2
  refine lk1_2 (qf := qf) (S := S) (er := er) (ek := ek) (tr := tr) (tk := tk) (p7 := p7) (qa := qa) (K := K) (hK := hK) (s2 := s2) (W := W) ⟨trivial, ⟨rfl, rfl, rfl⟩, ⟨rfl, rfl, rfl⟩, ⟨rfl, rfl, rfl⟩, ⟨rfl, rfl, rfl⟩, ⟨rfl, rfl, rfl⟩, ⟨rfl, rfl, rfl⟩, ⟨rfl, rfl, rfl⟩, ⟨rfl, rfl, rfl⟩, ⟨rfl, rfl, rfl⟩, rfl⟩ HCX (fun {W} q => HPO.out q) he1 he2 _ _ _ F2 x2 y2 z2 HS2 hB2 ?_
  intro a3 f3 u3 F3 x3 y3 z3 HS3 hB3
  refine lk1_3 (qf := qf) (S := S) (er := er) (ek := ek) (tr := tr) (tk := tk) (p7 := p7) (qa := qa) (K := K) (hK := hK) (s2 := s2) (W := W) ⟨trivial, ⟨rfl, rfl, rfl⟩, ⟨rfl, rfl, rfl⟩, ⟨rfl, rfl, rfl⟩, ⟨rfl, rfl, rfl⟩, ⟨rfl, rfl, rfl⟩, ⟨rfl, rfl, rfl⟩, ⟨rfl, rfl, rfl⟩, ⟨rfl, rfl, rfl⟩, ⟨rfl, rfl, rfl⟩, ⟨rfl, rfl, rfl⟩, ⟨rfl, rfl, rfl⟩, ⟨rfl, rfl, rfl⟩, ⟨rfl, rfl, rfl⟩, ⟨rfl, rfl, rfl⟩, ⟨rfl, rfl, rfl⟩, ⟨rfl, rfl, rfl⟩, ⟨rfl, rfl, rfl⟩, ⟨rfl, rfl, rfl⟩, rfl, rfl⟩ HCX (fun {W} q => HAL.out q) (fun {W} q => HRA.out q) (by omega) he1 he2 _ _ _ F3 x3 y3 z3 HS3 hB3 ?_
  intro a4 f4 u4 F4 x4 y4 z4 HS4 hB4
  refine lk1_4 (qf := qf) (S := S) (er := er) (ek := ek) (tr := tr) (tk := tk) (p7 := p7) (qa := qa) (K := K) (hK := hK) (s2 := s2) (W := W) ⟨trivial, ⟨rfl, rfl, rfl⟩, ⟨rfl, rfl, rfl⟩, ⟨rfl, rfl, rfl⟩, ⟨rfl, rfl, rfl⟩, ⟨rfl, rfl, rfl⟩, ⟨rfl, rfl, rfl⟩, ⟨rfl, rfl, rfl⟩, ⟨rfl, rfl, rfl⟩, ⟨rfl, rfl, rfl⟩, ⟨rfl, rfl, rfl⟩, ⟨rfl, rfl, rfl⟩, ⟨rfl, rfl, rfl⟩, ⟨rfl, rfl, rfl⟩, ⟨rfl, rfl, rfl⟩, rfl⟩ HCX (fun {W} q => HRP.out q) (fun {W} q => HRR.out q) he1 he2 _ _ _ F4 x4 y4 z4 HS4 hB4 ?_
  intro a5 f5 u5 F5 x5 y5 z5 HS5 hB5
  refine ⟨fun h => by omega, ?_⟩
  refine hK1 _ _ ?_
  have HSZ : Hid _ := HS5
  rw [lit95 F5, z5]
  generalize f5 = ff at *
  clear F0 F1 F2 F3 F4 d0 d7 d6 x1 x2 x3 x4 y1 y2 y3 y4 z1 z2 z3 z4
  go_wp2_with fail
  go_ret
  exact ⟨rfl, s2, HSZ.out, HC4.out⟩
set_option maxRecDepth 100000 in
set_option maxHeartbeats 12800000 in
theorem looks_2 {σ : Type} {L kb pb mb cb : Nat} {K : Keeper σ L kb} {hK : KFr K} {s : σ} {x : EV} {g : RG} {r : RV} {R : List (Ent L)} {own0 : Nat → Prop} {w0 : World} (er ek tr tk S : Int) (w : World) (h : AS own0 w0 (pES K hK s pb mb cb x g r R) w) (ha : Agr x r) (hx : x.Nm) (hL : L ≤ w.heap.size) (hw0 : w0.heap.size ≤ w.heap.size) (hc : K.cnt s ≤ 1000000000000) (hE : liveE x x.me = ⟨er, ek⟩) (hT : tgtE x x.n = ⟨tr, tk⟩) (hS : sumH x.hd 16 = S) (hqa : allB x = false) (h1 : ¬ 0 < er) : Calls Try.prog 55 #[.pointer (some ⟨pb, 0, none⟩), .pointer (some ⟨kb, 0, none⟩)] w fun e w' => e = .returned (.bool true) ∧ ∃ s', AS own0 w0 (pES K hK s' pb mb cb x g r R) w' ∧ K.cnt s' ≤ K.cnt s + 18 := by
  have hn2 := hx.n.2
  have hme : x.me < 16 := by have := hx.me; omega
  have HX : Hid _ := hx
  have HA : Hid _ := ha
  have HL0 : Hid _ := live_list w (pES.mm h) hn2
  have HS0 : Hid (AS own0 w0 (pES K hK s pb mb cb x g r R) w) := h
  obtain ⟨c0, c1⟩ := pES.cl h
  have hll := liveL_len x x.n
  have HLL : Hid ((liveL x x.n).length ≤ 1000000) := show (liveL x x.n).length ≤ 1000000 from by omega
  have HOWN : Hid (∀ {s : σ} {W : World}, AS own0 w0 (pES K hK s pb mb cb x g r R) W → Calls Try.prog 46 #[.pointer (some ⟨g.rb, 0, none⟩)] W fun e w' => e = .returned (epV ⟨er, ek⟩) ∧ Below W.heap.size W w') := fun {s W} h => by rw [← hE]; exact rown_any W (pES.rm h) ha hx
  have HFR : Hid (∀ {s : σ} {W : World}, AS own0 w0 (pES K hK s pb mb cb x g r R) W → Calls Try.prog 19 #[.pointer (some ⟨mb, 0, none⟩)] W fun e w' => e = .returned (.bool (!decide ((⟨tr, tk⟩ : Ep) = e0))) ∧ Below W.heap.size W w') := fun {s W} h => by rw [← hT]; exact frozen_any W (pES.mm h) hn2
  have HRF : Hid (∀ {s : σ} {W : World}, AS own0 w0 (pES K hK s pb mb cb x g r R) W → Calls Try.prog 68 #[.pointer (some ⟨g.rb, 0, none⟩)] W fun e w' => e = .returned (.bool (!decide ((⟨tr, tk⟩ : Ep) = e0))) ∧ Below W.heap.size W w') := fun {s W} h => by rw [← hT]; exact rfrozen_any W (pES.rm h) ha hx
  have HTG : Hid (∀ {s : σ} {W : World}, AS own0 w0 (pES K hK s pb mb cb x g r R) W → Calls Try.prog 35 #[.pointer (some ⟨mb, 0, none⟩)] W fun e w' => e = .returned (epV ⟨tr, tk⟩) ∧ Below W.heap.size W w') := fun {s W} h => by rw [← hT]; exact target_any W (pES.mm h) hn2
  have HRT : Hid (∀ {s : σ} {W : World}, AS own0 w0 (pES K hK s pb mb cb x g r R) W → Calls Try.prog 70 #[.pointer (some ⟨g.rb, 0, none⟩)] W fun e w' => e = .returned (epV ⟨tr, tk⟩) ∧ Below W.heap.size W w') := fun {s W} h => by rw [← hT]; exact rtarget_any W (pES.rm h) ha hx
  have HPO : Hid (∀ {s : σ} {W : World}, AS own0 w0 (pES K hK s pb mb cb x g r R) W → Calls Try.prog 22 #[.pointer (some ⟨mb, 0, none⟩)] W fun e w' => e = .returned (epV ⟨er, ek⟩) ∧ Below W.heap.size W w') := fun {s W} h => by rw [← hE]; exact own_any W (pES.mm h) hme
  have HAL : Hid (∀ {s : σ} {W : World}, AS own0 w0 (pES K hK s pb mb cb x g r R) W → Calls Try.prog 58 #[.pointer (some ⟨mb, 0, none⟩)] W fun e w' => e = .returned (.bool false) ∧ w' = W) := fun {s W} h => by rw [← hqa]; exact all_any W (pES.mm h) hn2
  have HRA : Hid (∀ {s : σ} {W : World}, AS own0 w0 (pES K hK s pb mb cb x g r R) W → Calls Try.prog 75 #[.pointer (some ⟨g.rb, 0, none⟩)] W fun e w' => e = .returned (.bool false) ∧ Below W.heap.size W w') := fun {s W} h => by rw [← hqa]; exact rall_any W (pES.rm h) ha hx
  have HRP : Hid (∀ {s : σ} {W : World}, AS own0 w0 (pES K hK s pb mb cb x g r R) W → Calls Try.prog 59 #[.pointer (some ⟨mb, 0, none⟩)] W fun e w' => e = .returned (.int .i64 S) ∧ w' = W) := fun {s W} h => by rw [← hS]; exact reported_any W (pES.mm h) hx.hd
  have HRR : Hid (∀ {s : σ} {W : World}, AS own0 w0 (pES K hK s pb mb cb x g r R) W → Calls Try.prog 74 #[.pointer (some ⟨g.rb, 0, none⟩)] W fun e w' => e = .returned (.int .i64 S) ∧ Below W.heap.size W w') := fun {s W} h => by rw [← hS]; exact rreported_any W (pES.rm h) ha hx
  have he1 : ∀ W, (binOp .eql 49 (.agg #[.int .i64 tr, .int .i64 tk]) (.agg #[.int .i64 tr, .int .i64 tk])).run Try.prog W = .ok (.bool true) W := fun W => by rw [eql49]; simp [sameE]
  have he2 : ∀ W, (binOp .eql 49 (.agg #[.int .i64 er, .int .i64 ek]) (.agg #[.int .i64 er, .int .i64 ek])).run Try.prog W = .ok (.bool true) W := fun W => by rw [eql49]; simp [sameE]
  generalize (!decide ((⟨tr, tk⟩ : Ep) = e0)) = qf at *
  clear h ha hx hn2 hme hll hE hT hS hqa
  unfold epV at *
  go_enter Try.func55, Try.ntmps55
  go_upto_region 4 with (first
    | (go_at_call 25; refine Calls.mono HL0.out ?_; rintro e w1 ⟨v1, rfl, ho1, hb1⟩; have HS1 : Hid (AS own0 w0 (rowE L 49 2 v1 (liveL x x.n).length (flatE (liveL x x.n)) :: pES K hK s pb mb cb x g r R) w1) := (HS0.out.more hb1).row (fun k hk => .inl (HS0.out.h.typ hk).2) hw0 hL ho1; have HB1 : Hid _ := hb1; obtain ⟨c0, c1⟩ := pES.cl HS1.out.drop; clear hb1)
    | (go_at_call 66; refine Calls.mono (rlive_any _ (pES.rm HS1.out.drop) HA.out HX.out) ?_; rintro e w2 ⟨v2, rfl, ho2, hb2⟩; have HS2 : Hid _ := HS1.out.more hb2; have HO2 : Hid _ := ho2; clear hb2 ho2)
    | (go_at_call 78; refine Calls.mono (sameEps_any _ (show w2.ownsRow L 49 2 v1 _ _ from HS2.out.head) HO2.out) ?_; rintro e w3 ⟨rfl, z, rfl⟩; have HS3 : Hid (AS own0 w0 (rowE L 49 2 v1 (liveL x x.n).length (flatE (liveL x x.n)) :: pES K hK s pb mb cb x g r R) (w2.drewN z)) := HS2.out.more (below_drewN (Below.refl _ _) z))
    | (go_at_call 79; refine Calls.mono (pES.putE HS3.out HLL.out hc) ?_; rintro e w4 ⟨rfl, s2, hs4, hc4⟩; have HS : Hid (AS own0 w0 (pES K hK s2 pb mb cb x g r R) w4) := hs4; have HC4 : Hid _ := hc4; obtain ⟨c0, c1⟩ := pES.cl hs4; clear hs4 hc4)
    | fail)
  go_upto_region 5 with (first
    | (go_at_call 46; refine Calls.mono (HOWN.out HS.out) ?_; rintro e w5 ⟨rfl, hb5⟩; obtain ⟨c0, c1⟩ := pES.cl (HS.out.more hb5); have hlt := (pES.bx (HS.out.more hb5)).lt)
    | fail)
  obtain ⟨p7, hp7⟩ : ∃ p, p = w5.heap.size := ⟨_, rfl⟩
  have HS5 : Hid (AS own0 w0 (pES K hK s2 pb mb cb x g r R) (w5.alloc (.cells #[.int .i64 er, .int .i64 ek] 49))) := (HS.out.more hb5).more ((Below.refl _ _).alloc (Nat.le_refl _) _)
  have HQ : Hid (Blk (w5.alloc (.cells #[.int .i64 er, .int .i64 ek] 49)) p7 #[.int .i64 er, .int .i64 ek] 49) := show Blk _ _ _ _ from by rw [hp7]; exact heap_alloc_new w5 _
  generalize w5.alloc (.cells #[.int .i64 er, .int .i64 ek] 49) = W at *
  try rw [← hp7]
  have HCX : Hid (∀ W2, AS own0 w0 (pES K hK s2 pb mb cb x g r R) W2 → Below W.heap.size W W2 → W2.cell? ⟨pb, 0, none⟩ = some (.pointer (some ⟨mb, 0, none⟩)) ∧ W2.cell? ⟨pb, 1, none⟩ = some (.pointer (some ⟨g.rb, 0, none⟩)) ∧ Blk W2 p7 #[.int .i64 er, .int .i64 ek] 49) := fun W2 h1 h2 => ⟨(pES.cl h1).1, (pES.cl h1).2, Blk.up (w := W) HQ.out h2⟩
  clear hb5 hp7 HS c0 c1 hlt
  rename_i K1 hK1
  try rw [show ∀ a : Act, a.put none undef = a from fun _ => rfl]
  have hB0 : Below W.heap.size W ({ W with drawn := W.drawn + 1 } : World) := (Below.refl _ _).drew
  have HS0 : Hid (AS own0 w0 (pES K hK s2 pb mb cb x g r R) ({ W with drawn := W.drawn + 1 } : World)) := HS5.out.more hB0
  refine wp_region_mixF (fun wz : World => wz.cell? ⟨pb, 0, none⟩ = some (.pointer (some ⟨mb, 0, none⟩)) ∧ wz.cell? ⟨pb, 1, none⟩ = some (.pointer (some ⟨g.rb, 0, none⟩)) ∧ Blk wz p7 #[.int .i64 er, .int .i64 ek] 49) (fun i => i == 6 || i == 11 || i == 19 || i == 24 || i == 32 || i == 41 || i == 59 || i == 64 || i == 67) 67 [0, 1, 2, 6, 10, 18, 34, 2, 130, 258, 514, 1090, 2114, 4098, 10240, 16384, 49152, 81920, 147456, 278528, 16384, 1064960, 2113536, 4210688, 8929280, 17317888, 33570816, 83886080, 134217728, 402653184, 671088640, 1207959552, 2281701376, 134217728, 13019119616, 17314086912, 38654705664, 68719476736, 206158430208, 343597383680, 618475290624, 1168231104512, 68719476736, 4466765987840, 8864812498944, 19859928776704, 35184372088832, 105553116266496, 175921860444160, 316659348799488, 598134325510144, 1161152998408192, 2254067556417536, 4503668346847232, 10133099161583616, 18014398509481984, 54043195528445952, 90071992547409920, 162129586585337856, 306244774661193728, 18014398509481984, 1170935903116328960, 2323857407723175936, 4629700416936869888, 9817847187667681280, 19041219224522457088, 36911502545928585216, 147573952589676412927] (by kernel_rfl) (by kernel_rfl) rfl (of_decide_eq_true (by kernel_rfl)) (by kernel_rfl) (by kernel_rfl) (by kernel_rfl) ?_
  refine withFrL (N := 95) rfl ?_
  intro a0 f0 F0 hff
  have d0 : f0 0 = Value.pointer (some ⟨pb, 0, none⟩) := hff 0
  have d7 : f0 7 = Value.pointer (some ⟨p7, 0, none⟩) := hff 7
  have d6 : f0 6 = Value.bool true := hff 6
  clear hff
  refine lk2_0 (qf := qf) (S := S) (er := er) (ek := ek) (tr := tr) (tk := tk) (p7 := p7) (qa := false) (K := K) (hK := hK) (s2 := s2) (W := W) ⟨trivial, ⟨rfl, rfl, rfl⟩, ⟨rfl, rfl, rfl⟩, ⟨rfl, rfl, rfl⟩, ⟨rfl, rfl, rfl⟩, ⟨rfl, rfl, rfl⟩, ⟨rfl, rfl, rfl⟩, ⟨rfl, rfl, rfl⟩, ⟨rfl, rfl, rfl⟩, ⟨rfl, rfl, rfl⟩, ⟨rfl, rfl, rfl⟩, ⟨rfl, rfl, rfl⟩, ⟨rfl, rfl, rfl⟩, ⟨rfl, rfl, rfl⟩, ⟨rfl, rfl, rfl⟩, rfl⟩ HCX (fun {W} q => HFR.out q) (fun {W} q => HRF.out q) he1 he2 _ _ _ F0 d0 d7 d6 HS0 hB0 ?_
  intro a1 f1 u1 F1 x1 y1 z1 HS1 hB1
  refine lk2_1 (qf := qf) (S := S) (er := er) (ek := ek) (tr := tr) (tk := tk) (p7 := p7) (qa := false) (K := K) (hK := hK) (s2 := s2) (W := W) ⟨trivial, ⟨rfl, rfl, rfl⟩, ⟨rfl, rfl, rfl⟩, ⟨rfl, rfl, rfl⟩, ⟨rfl, rfl, rfl⟩, ⟨rfl, rfl, rfl⟩, ⟨rfl, rfl, rfl⟩, ⟨rfl, rfl, rfl⟩, ⟨rfl, rfl, rfl⟩, ⟨rfl, rfl, rfl⟩, ⟨rfl, rfl, rfl⟩, ⟨rfl, rfl, rfl⟩, ⟨rfl, rfl, rfl⟩, ⟨rfl, rfl, rfl⟩, rfl⟩ HCX (fun {W} q => HTG.out q) (fun {W} q => HRT.out q) he1 he2 _ _ _ F1 x1 y1 z1 HS1 hB1 ?_
  intro a2 f2 u2 F2 x2 y2 z2 HS2 hB2
  refine lk2_2 (qf := qf) (S := S) (er := er) (ek := ek) (tr := tr) (tk := tk) (p7 := p7) (qa := false) (K := K) (hK := hK) (s2 := s2) (W := W) ⟨trivial, ⟨rfl, rfl, rfl⟩, ⟨rfl, rfl, rfl⟩, ⟨rfl, rfl, rfl⟩, ⟨rfl, rfl, rfl⟩, ⟨rfl, rfl, rfl⟩, ⟨rfl, rfl, rfl⟩, ⟨rfl, rfl, rfl⟩, ⟨rfl, rfl, rfl⟩, ⟨rfl, rfl, rfl⟩, rfl⟩ HCX (fun {W} q => HPO.out q) he1 he2 _ _ _ F2 x2 y2 z2 HS2 hB2 ?_
  intro a3 f3 u3 F3 x3 y3 z3 HS3 hB3
  refine lk2_3 (qf := qf) (S := S) (er := er) (ek := ek) (tr := tr) (tk := tk) (p7 := p7) (qa := false) (K := K) (hK := hK) (s2 := s2) (W := W) ⟨trivial, ⟨rfl, rfl, rfl⟩, ⟨rfl, rfl, rfl⟩, ⟨rfl, rfl, rfl⟩, ⟨rfl, rfl, rfl⟩, ⟨rfl, rfl, rfl⟩, ⟨rfl, rfl, rfl⟩, ⟨rfl, rfl, rfl⟩, ⟨rfl, rfl, rfl⟩, ⟨rfl, rfl, rfl⟩, ⟨rfl, rfl, rfl⟩, ⟨rfl, rfl, rfl⟩, ⟨rfl, rfl, rfl⟩, ⟨rfl, rfl, rfl⟩, ⟨rfl, rfl, rfl⟩, ⟨rfl, rfl, rfl⟩, ⟨rfl, rfl, rfl⟩, ⟨rfl, rfl, rfl⟩, ⟨rfl, rfl, rfl⟩, rfl, rfl⟩ HCX (fun {W} q => HAL.out q) (by omega) he1 he2 _ _ _ F3 x3 y3 z3 HS3 hB3 ?_
  intro a4 f4 u4 F4 x4 y4 z4 HS4 hB4
  refine lk2_4 (qf := qf) (S := S) (er := er) (ek := ek) (tr := tr) (tk := tk) (p7 := p7) (qa := false) (K := K) (hK := hK) (s2 := s2) (W := W) ⟨trivial, ⟨rfl, rfl, rfl⟩, ⟨rfl, rfl, rfl⟩, ⟨rfl, rfl, rfl⟩, ⟨rfl, rfl, rfl⟩, ⟨rfl, rfl, rfl⟩, ⟨rfl, rfl, rfl⟩, ⟨rfl, rfl, rfl⟩, ⟨rfl, rfl, rfl⟩, ⟨rfl, rfl, rfl⟩, ⟨rfl, rfl, rfl⟩, ⟨rfl, rfl, rfl⟩, ⟨rfl, rfl, rfl⟩, ⟨rfl, rfl, rfl⟩, ⟨rfl, rfl, rfl⟩, rfl⟩ HCX (fun {W} q => HRP.out q) (fun {W} q => HRR.out q) he1 he2 _ _ _ F4 x4 y4 z4 HS4 hB4 ?_
  intro a5 f5 u5 F5 x5 y5 z5 HS5 hB5
  refine ⟨fun h => by omega, ?_⟩
  refine hK1 _ _ ?_
  have HSZ : Hid _ := HS5
  rw [lit95 F5, z5]
  generalize f5 = ff at *
  clear F0 F1 F2 F3 F4 d0 d7 d6 x1 x2 x3 x4 y1 y2 y3 y4 z1 z2 z3 z4
  go_wp2_with fail
  go_ret
  exact ⟨rfl, s2, HSZ.out, HC4.out⟩
theorem looks_any {σ : Type} {L kb pb mb cb : Nat} {K : Keeper σ L kb} {hK : KFr K} {s : σ} {x : EV} {g : RG} {r : RV} {R : List (Ent L)} {own0 : Nat → Prop} {w0 : World} (w : World) (h : AS own0 w0 (pES K hK s pb mb cb x g r R) w) (ha : Agr x r) (hx : x.Nm) (hL : L ≤ w.heap.size) (hw0 : w0.heap.size ≤ w.heap.size) (hc : K.cnt s ≤ 1000000000000) : Calls Try.prog 55 #[.pointer (some ⟨pb, 0, none⟩), .pointer (some ⟨kb, 0, none⟩)] w fun e w' => e = .returned (.bool true) ∧ ∃ s', AS own0 w0 (pES K hK s' pb mb cb x g r R) w' ∧ K.cnt s' ≤ K.cnt s + 18 := by
  obtain ⟨er, ek, hE⟩ : ∃ er ek, liveE x x.me = ⟨er, ek⟩ := ⟨_, _, rfl⟩
  obtain ⟨tr, tk, hT⟩ : ∃ tr tk, tgtE x x.n = ⟨tr, tk⟩ := ⟨_, _, rfl⟩
  by_cases h1 : 0 < er
  · exact looks_1 er ek tr tk _ _ w h ha hx hL hw0 hc hE hT rfl rfl h1
  · have ho : liveE x x.me = e0 := by
      rcases liveE_nn ha x.me with q | ⟨q, q2⟩
      · exact q
      · have := congrArg Ep.r (hE.symm.trans q)
        simp only at this
        omega
    exact looks_2 er ek tr tk _ w h ha hx hL hw0 hc hE hT rfl (allB_none ha hx ho) h1
end Go.Proofs.Ytjojhhkbebddmaa
