import Derived.Test.YtnphkmdanicemaaGreatDoorVSm
import Derived.Test.YtnphkmdanicemaaGreatDoorVApp
import Derived.Test.YtnphkmdanicemaaGreatDoorVVw
import Derived.Test.YtnphkmdanicemaaGreatDoorVRa
namespace Go.Proofs.YtnphkmdanicemaaGreatDoor
open Go.RowKit Go.PlainAid
set_option linter.unusedVariables false
set_option linter.unusedSimpArgs false
set_option maxRecDepth 100000 in
set_option maxHeartbeats 1600000 in
theorem insert_le1 (p : Option Addr) (n : Nat) (cap : Nat) (f : Value) (w : World) (hn : n ≤ 1) : Calls Tryz.prog 82 #[.slice p n cap, .int .i64 0, .int .i64 (n : Int), f] w fun e w' => e = .returned (.tuple #[]) ∧ w' = w := by
  have h1' : decide ((1 : Int) < (n : Int)) = false := by simp; omega
  have h1 : ¬ (1 : Int) < (n : Int) := by omega
  go_enter Tryz.func82, Tryz.ntmps82
  go_wp2
  go_loopw [8] (fun s8 wr => s8 = .int .i64 1 ∧ wr = w) (fun _ _ => 0)
  case atStart => exact ⟨rfl, rfl⟩
  case round =>
    obtain ⟨rfl, rfl⟩ := hrel
    go_wp2
    first | (go_end0; exact ⟨rfl, rfl⟩) | exact bodyPost_ret (results_none rfl _ _ _) rfl ⟨rfl, rfl⟩
set_option maxRecDepth 100000 in
set_option maxHeartbeats 1600000 in
theorem pdq_le1 (p : Option Addr) (n : Nat) (cap : Nat) (l : Value) (f : Value) (w : World) (hn : n ≤ 1) : Calls Tryz.prog 70 #[.slice p n cap, .int .i64 0, .int .i64 (n : Int), l, f] w fun e w' => e = .returned (.tuple #[]) ∧ w' = w := by
  have HI : Hid _ := insert_le1 p n cap f w hn
  have hw : IntKind.i64.wrap ((n : Int) - 0) = (n : Int) := by rw [IntKind.wrap_i64]; omega
  have h12 : (n : Int) ≤ 12 := by omega
  go_enter Tryz.func70, Tryz.ntmps70
  go_wp2
  go_loopw [1, 2] (fun s1 s2 wr => s1 = .int .i64 0 ∧ s2 = .int .i64 (n : Int) ∧ wr = w) (fun _ _ _ => 0)
  case atStart => exact ⟨rfl, rfl, rfl⟩
  case round =>
    obtain ⟨rfl, rfl, rfl⟩ := hrel
    go_wp2_with fail
    refine Calls.mono HI.out ?_
    rintro e w3 ⟨rfl, rfl⟩
    go_wp2
    first | (go_end0; exact ⟨rfl, rfl⟩) | exact bodyPost_ret (results_none rfl _ _ _) rfl ⟨rfl, rfl⟩
set_option maxRecDepth 100000 in
set_option maxHeartbeats 1600000 in
theorem len64_le1 (n : Nat) (w : World) (hn : n ≤ 1) : Calls Tryz.prog 91 #[.int .u64 (n : Int)] w fun e w' => (∃ l, e = .returned (.int .i64 l)) ∧ w' = w := by
  go_enter Tryz.func91, Tryz.ntmps91
  rcases (show n = 0 ∨ n = 1 by omega) with rfl | rfl
  · go_wp2
    go_ret
    exact ⟨⟨_, rfl⟩, rfl⟩
  · go_wp2
    go_ret
    exact ⟨⟨_, rfl⟩, rfl⟩
set_option maxRecDepth 100000 in
set_option maxHeartbeats 1600000 in
theorem len_le1 (n : Nat) (w : World) (hn : n ≤ 1) : Calls Tryz.prog 71 #[.int .u64 (n : Int)] w fun e w' => (∃ l, e = .returned (.int .i64 l)) ∧ w' = w := by
  have HL : Hid _ := len64_le1 n w hn
  go_enter Tryz.func71, Tryz.ntmps71
  go_wp2_with fail
  refine Calls.mono HL.out ?_
  rintro e w3 ⟨⟨l, rfl⟩, rfl⟩
  go_wp2
  go_ret
  exact ⟨⟨_, rfl⟩, rfl⟩
set_option maxRecDepth 100000 in
set_option maxHeartbeats 1600000 in
theorem sort_le1 (p : Option Addr) (n : Nat) (cap : Nat) (f : Value) (w : World) (hn : n ≤ 1) : Calls Tryz.prog 50 #[.slice p n cap, f] w fun e w' => e = .returned (.tuple #[]) ∧ w' = w := by
  have HL : Hid _ := len_le1 n w hn
  have HP : Hid _ := fun l : Value => pdq_le1 p n cap l f w hn
  have hu : IntKind.u64.wrap (n : Int) = (n : Int) := by rcases (show n = 0 ∨ n = 1 by omega) with rfl | rfl <;> rfl
  go_enter Tryz.func50, Tryz.ntmps50
  go_wp2_with fail
  refine Calls.mono HL.out ?_
  rintro e w3 ⟨⟨l, rfl⟩, rfl⟩
  go_wp2_with fail
  refine Calls.mono (HP.out _) ?_
  rintro e w3 ⟨rfl, rfl⟩
  go_wp2
  first | (go_end0; exact ⟨rfl, rfl⟩) | exact bodyPost_ret (results_none rfl _ _ _) rfl ⟨rfl, rfl⟩
end Go.Proofs.YtnphkmdanicemaaGreatDoor
namespace Go.Proofs.YtnphkmdanicemaaGreatDoor
open Go.RowKit Go.PlainAid Go.MapKept
set_option linter.unusedVariables false
set_option linter.unusedSimpArgs false
def Ent.cs (e : Ent) : List Value := [.string ⟨e.n.toArray⟩, .int .i64 e.c, .int .i64 e.rc, .int .i64 e.v, .int .i64 e.d, .int .i64 e.u, .int .i64 e.h]
def flatV (es : List Ent) : List Value := es.flatMap Ent.cs
theorem flatV_length : ∀ es : List Ent, (flatV es).length = es.length * 7
  | [] => rfl
  | e :: t => by
    have := flatV_length t
    simp only [flatV, List.flatMap_cons, List.length_append, List.length_cons] at this ⊢
    rw [this]
    simp [Ent.cs]
    omega
theorem flatV_get : ∀ (es : List Ent) (i j : Nat) (e : Ent), es[i]? = some e → j < 7 → (flatV es)[i * 7 + j]? = e.cs[j]?
  | [], _, _, _, h, _ => by simp at h
  | x :: t, 0, j, e, h, hj => by
    simp at h
    subst h
    simp only [flatV, List.flatMap_cons, Nat.zero_mul, Nat.zero_add]
    exact List.getElem?_append_left (by simp [Ent.cs]; omega)
  | x :: t, i + 1, j, e, h, hj => by
    have ih := flatV_get t i j e (by simpa using h) hj
    simp only [flatV, List.flatMap_cons] at ih ⊢
    rw [List.getElem?_append_right (by simp [Ent.cs]; omega)]
    rw [← ih]
    congr 1
    simp [Ent.cs]
    omega
theorem sizeV : (Tryz.prog.info? 105).map (fun i => (i.zero, i.size, i.bytes)) = some (some (viewV zed), 7, 64) := by kernel_rfl
theorem flatV_append (a b : List Ent) : flatV (a ++ b) = flatV a ++ flatV b := by simp [flatV]
theorem wpList_appV {w : World} {ops : Array Oper} {rest : List Oper} {o : Oper} {a : Act} {Q : Exit → Act → World → Prop} (hgd : o.guard = none) (s x : Operand)
    (ho : o.op = .call { callee := .builtin .append, args := #[s, x], argTypes := #[77, 77] })
    (base k : Nat) (v : Value) (es : List Ent) (hs : a.eval s = v) (hown : w.ownsRow base 105 7 v k (flatV es)) (e : Ent) {g : Nat} (hx : a.eval x = .slice (some ⟨g, 0, none⟩) 1 1) (hgs : g = w.heap.size) (hlen : (k + 1) * 64 ≤ 140737488355328) (hbase : base ≤ w.heap.size)
    (h : ∀ v' w', w'.ownsRow base 105 7 v' (k + 1) (flatV (es ++ [e])) → Grew w w' v v' → wpList Tryz.prog ops Q rest (a.put o.dst v') w') :
    wpList Tryz.prog ops Q (o :: rest) a (w.alloc (.cells #[.string ⟨e.n.toArray⟩, .int .i64 e.c, .int .i64 e.rc, .int .i64 e.v, .int .i64 e.d, .int .i64 e.u, .int .i64 e.h] 105)) := by
  subst hgs
  refine wpList_app 77 105 (viewV zed) 7 64 Tryz.underlying77 sizeV rfl (by decide) (by decide) hgd s x ho base k v (flatV es) hs (hown.alloc _) ⟨w.heap.size, 0, none⟩ 1 1 e.cs hx rfl (fun j u hu => ?_) (fun u hu => by simp [Ent.cs] at hu; rcases hu with rfl | rfl | rfl | rfl | rfl | rfl | rfl <;> rfl) hlen (by rw [World.size_alloc]; omega) ?_
  · rw [addr_add, Nat.zero_add]
    have hB : Blk (w.alloc (.cells #[.string ⟨e.n.toArray⟩, .int .i64 e.c, .int .i64 e.rc, .int .i64 e.v, .int .i64 e.d, .int .i64 e.u, .int .i64 e.h] 105)) w.heap.size #[.string ⟨e.n.toArray⟩, .int .i64 e.c, .int .i64 e.rc, .int .i64 e.v, .int .i64 e.d, .int .i64 e.u, .int .i64 e.h] 105 := heap_alloc_new w _
    rw [hB.cell j]
    simpa [Ent.cs] using hu
  · intro v' w' h1 h2 _
    refine h v' w' ?_ h2.ofAlloc
    rw [flatV_append]
    have : flatV [e] = e.cs := by simp [flatV]
    rw [this]
    exact h1
def ownV (me : Int) (L : List Ent) : List Ent := L.filter fun e => e.r == me
theorem ownV_le (me : Int) (L : List Ent) : (ownV me L).length ≤ L.length := List.length_filter_le _ _
structure DgR (mb it : Nat) (me : Int) (L : List Ent) (w wr : World) (D T : List Ent) (v : Value) : Prop where
  rng : Rng wr mb it L D T
  bel : Below w.heap.size w wr
  row : wr.ownsRow w.heap.size 105 7 v (ownV me D).length (flatV (ownV me D))
def DgE (mb it : Nat) (me : Int) (L : List Ent) (w wr : World) (v : Value) : Prop := ∃ D T, DgR mb it me L w wr D T v
theorem row_ne_it {w wr : World} {mb it n : Nat} {L D T : List Ent} {v : Value} {xs : List Value} (h : Rng wr mb it L D T) (hr : wr.ownsRow w.heap.size 105 7 v n xs) : ∀ k, v.ownBlock = some k → k ≠ it := fun k hk => by
  obtain ⟨cur, hc⟩ := ownsRow_type hr hk
  exact h.ne_b hc
set_option maxRecDepth 100000 in
set_option maxHeartbeats 3200000 in
theorem digest_one {hb mb : Nat} {me n : Int} {L : List Ent} (w : World) (hV : Vw hb mb me n L w) (hL : (ownV me L).length ≤ 1) :
    Calls Tryz.prog 25 #[.pointer (some ⟨hb, 0, none⟩)] w fun e w' => ∃ v ds, e = .returned v ∧ ds.Perm (ownV me L) ∧ w'.ownsRow w.heap.size 105 7 v ds.length (flatV ds) ∧ Below w.heap.size w w' := by
  have c2 := hV.c2
  obtain ⟨w1, hrg, hR, hb1, hs1⟩ := hV.map.range
  have hlt : mb < w.heap.size := hV.map.lt
  have hbd : ∀ D T : List Ent, (D ++ T).Perm L → (ownV me D).length ≤ 1 := fun D T hp => by
    have h2 := (hp.filter (fun e => e.r == me)).length_eq
    have h3 : (List.filter (fun e => e.r == me) L).length ≤ 1 := hL
    rw [List.filter_append, List.length_append] at h2
    show (List.filter (fun e => e.r == me) D).length ≤ 1
    omega
  have H0 : Hid _ := (⟨hR, hb1, World.ownsRow_nil _ _ _ _⟩ : DgR mb w.heap.size me L w w1 [] L (.slice none 0 0))
  have HBD : Hid _ := hbd
  have HLT : Hid _ := hlt
  have HV : Hid _ := hV
  clear hR hb1 hbd hV hlt hs1
  go_enter Tryz.func25, Tryz.ntmps25
  go_wp2
  go_loopw [3, 4, 5] (fun v _ _ wr => DgE mb w.heap.size me L w wr v) (fun _ _ _ wr => rngLeft wr mb w.heap.size)
  case atStart => exact ⟨[], L, H0.out⟩
  case round =>
    obtain ⟨D, T, hE⟩ := hrel
    rcases hE.rng.next2 with ⟨hT, hn⟩ | ⟨x, T', w2, hn, hen, hr2, hlt2, hst2, hsz2⟩
    · have hpm : (ownV me D).Perm (ownV me L) := by
        have := hE.rng.perm
        rw [hT, List.append_nil] at this
        exact this.filter _
      have hbn := HBD.out D T hE.rng.perm
      obtain ⟨ao, cap, hv, hnc, hcm, hat⟩ := own_read hE.row
      have HRO : Hid _ := hE.row
      have HBE : Hid _ := hE.bel
      have HPM : Hid _ := hpm
      subst hv
      clear hE hT hpm
      have HSN : Hid _ := sort_le1 ao (ownV me D).length cap (.func (.func 51) #[] #[]) wr hbn
      clear hat hbn
      go_wp2_with fail
      refine Calls.mono HSN.out ?_
      rintro e w3 ⟨rfl, hw3⟩
      replace hw3 := hw3.symm
      subst hw3
      go_wp2
      go_ret
      exact ⟨_, ownV me D, rfl, HPM.out, HRO.out, HBE.out⟩
    · have hlf := hE.rng.left
      have hbd2 := HBD.out _ _ hr2.perm
      have hgz : Below w2.heap.size w2 ((w2.alloc (.cells #[.int .i64 x.r, .string ⟨x.n.toArray⟩] 109)).alloc (.cells #[.string ⟨x.n.toArray⟩, .int .i64 x.c, .int .i64 x.rc, .int .i64 x.v, .int .i64 x.d, .int .i64 x.u, .int .i64 x.h] 105)) := ((Below.refl _ _).alloc (Nat.le_refl _) _).alloc (by simp) _
      have b2 : Below w.heap.size w w2 := hE.bel.trans (hst2.below hE.bel.size (fun k e => by rw [e]; exact Nat.le_refl _))
      have hbX : Below w.heap.size w ((w2.alloc (.cells #[.int .i64 x.r, .string ⟨x.n.toArray⟩] 109)).alloc (.cells #[.string ⟨x.n.toArray⟩, .int .i64 x.c, .int .i64 x.rc, .int .i64 x.v, .int .i64 x.d, .int .i64 x.u, .int .i64 x.h] 105)) := b2.trans (hgz.mono b2.size)
      have hr3 : Rng ((w2.alloc (.cells #[.int .i64 x.r, .string ⟨x.n.toArray⟩] 109)).alloc (.cells #[.string ⟨x.n.toArray⟩, .int .i64 x.c, .int .i64 x.rc, .int .i64 x.v, .int .i64 x.d, .int .i64 x.u, .int .i64 x.h] 105)) mb w.heap.size L (D ++ [x]) T' := hr2.same (hgz.block _ hr2.map.lt) (hgz.block _ hr2.lt)
      have hni := row_ne_it hE.rng hE.row
      have hrow : ((w2.alloc (.cells #[.int .i64 x.r, .string ⟨x.n.toArray⟩] 109)).alloc (.cells #[.string ⟨x.n.toArray⟩, .int .i64 x.c, .int .i64 x.rc, .int .i64 x.v, .int .i64 x.d, .int .i64 x.u, .int .i64 x.h] 105)).ownsRow w.heap.size 105 7 u3 (ownV me D).length (flatV (ownV me D)) := ownsRow_same hE.row (fun k e => (hgz.block k (by have := (ownsRow_lt hE.row e).2; omega)).trans (hst2.block k (ownsRow_lt hE.row e).2 (hni k e)))
      have hkB : Blk ((w2.alloc (.cells #[.int .i64 x.r, .string ⟨x.n.toArray⟩] 109)).alloc (.cells #[.string ⟨x.n.toArray⟩, .int .i64 x.c, .int .i64 x.rc, .int .i64 x.v, .int .i64 x.d, .int .i64 x.u, .int .i64 x.h] 105)) w2.heap.size #[.int .i64 x.r, .string ⟨x.n.toArray⟩] 109 := (Below.heap_alloc _ _ _ (by simp)).trans (heap_alloc_new w2 _)
      have HKB := hkB.cell 0
      have hvB : Blk ((w2.alloc (.cells #[.int .i64 x.r, .string ⟨x.n.toArray⟩] 109)).alloc (.cells #[.string ⟨x.n.toArray⟩, .int .i64 x.c, .int .i64 x.rc, .int .i64 x.v, .int .i64 x.d, .int .i64 x.u, .int .i64 x.h] 105)) (w2.heap.size + 1) #[.string ⟨x.n.toArray⟩, .int .i64 x.c, .int .i64 x.rc, .int .i64 x.v, .int .i64 x.d, .int .i64 x.u, .int .i64 x.h] 105 := by
        have := heap_alloc_new (w2.alloc (.cells #[.int .i64 x.r, .string ⟨x.n.toArray⟩] 109)) (.cells #[.string ⟨x.n.toArray⟩, .int .i64 x.c, .int .i64 x.rc, .int .i64 x.v, .int .i64 x.d, .int .i64 x.u, .int .i64 x.h] 105)
        rw [World.size_alloc] at this
        exact this
      have HVB := box_cells (e := x) hvB
      have HM := (HV.out.more hbX).c0
      have HLF : Hid _ := (show T'.length < rngLeft wr mb w.heap.size from by rw [hlf]; exact hlt2)
      have HR3 : Hid _ := hr3
      have HBX : Hid _ := hbX
      have HRW : Hid _ := hrow
      obtain ⟨ao, cap, hv, _⟩ := own_slice hE.row
      subst hv
      unfold keyV viewV at hn hen
      clear hE hr2 hlt2 hst2 hsz2 hlf hgz b2 hbX hr3 hni hrow hkB hvB
      simp only [List.getElem?_toArray, List.getElem?_cons_zero] at HKB
      go_wp2
      clear hn hen
      generalize (w2.alloc (.cells #[.int .i64 x.r, .string ⟨x.n.toArray⟩] 109)).alloc (.cells #[.string ⟨x.n.toArray⟩, .int .i64 x.c, .int .i64 x.rc, .int .i64 x.v, .int .i64 x.d, .int .i64 x.u, .int .i64 x.h] 105) = X at *
      generalize w2.heap.size + 1 = vb at *
      generalize w2.heap.size = kb at *
      have hap : ownV me (D ++ [x]) = ownV me D ++ (if x.r == me then [x] else []) := by
        unfold ownV
        rw [List.filter_append]
        by_cases h : x.r = me <;> simp [h]
      by_cases hx : x.r = me
      · have hxm : x.r = me := hx
        rename_i K hK
        try rw [show ∀ a : Act, a.put none undef = a from fun _ => rfl]
        refine wp_region_mix (fun wq => Below X.heap.size X wq) (fun i => i == 99) 99 (by kernel_rfl) rfl (by kernel_rfl) (by kernel_rfl) (by kernel_rfl) ?_
        refine withFrP (N := 30) rfl ?_
        intro f0 F0 hff
        have e0 : f0 0 = Value.pointer (some ⟨hb, 0, none⟩) := hff 0
        have e4 : f0 4 = Value.pointer (some ⟨kb, 0, none⟩) := hff 4
        clear hff
        have HCC : (fun wq => Below X.heap.size X wq) (({ X with drawn := X.drawn + 1 } : World)) := (Below.drew (Below.refl X.heap.size X))
        have VH : ∀ wr, Below X.heap.size X wr → wr.cell? ⟨hb, 0, none⟩ = some (.int .i64 me) := fun wr hw => (hw.cell (p := ⟨hb, 0, none⟩) (World.block_lt_of_cell? X _ HM)).trans HM
        have VK : ∀ wr, Below X.heap.size X wr → wr.cell? ⟨kb, 0, none⟩ = some (.int .i64 x.r) := fun wr hw => (hw.cell (p := ⟨kb, 0, none⟩) (World.block_lt_of_cell? X _ HKB)).trans HKB
        refine lyp F0 rfl HCC rfl (by omega) (wanted_none rfl) (v := Value.pointer (some ⟨kb, 0, none⟩)) (fun wr hwr => by simp only [execOp, (F0.eval 4 (by omega)).trans (show _ = Value.pointer (some ⟨kb, 0, none⟩) from by simp [upd, e0, e4])]; simp [go_sem]) fun F1 => ?_
        refine lyp F1 rfl HCC rfl (by omega) (wanted_none rfl) (v := Value.int .i64 x.r) (fun wr hwr => by simp only [execOp, (F1.eval 16 (by omega)).trans (show _ = Value.pointer (some ⟨kb, 0, none⟩) from by simp [upd, e0, e4])]; simp [go_sem, VK wr hwr]) fun F2 => ?_
        refine lyp F2 rfl HCC rfl (by omega) (wanted_none rfl) (v := Value.pointer (some ⟨hb, 0, none⟩)) (fun wr hwr => by simp only [execOp, (F2.eval 0 (by omega)).trans (show _ = Value.pointer (some ⟨hb, 0, none⟩) from by simp [upd, e0, e4])]; first | rfl | simp [go_sem]) fun F3 => ?_
        refine lyp F3 rfl HCC rfl (by omega) (wanted_none rfl) (v := Value.pointer (some ⟨hb, 0, none⟩)) (fun wr hwr => by simp only [execOp, (F3.eval 18 (by omega)).trans (show _ = Value.pointer (some ⟨hb, 0, none⟩) from by simp [upd, e0, e4])]; simp [go_sem]) fun F4 => ?_
        refine lyp F4 rfl HCC rfl (by omega) (wanted_none rfl) (v := Value.pointer (some ⟨hb, 0, none⟩)) (fun wr hwr => by simp only [execOp, (F4.eval 19 (by omega)).trans (show _ = Value.pointer (some ⟨hb, 0, none⟩) from by simp [upd, e0, e4])]; simp [go_sem]) fun F5 => ?_
        refine lyp F5 rfl HCC rfl (by omega) (wanted_none rfl) (v := Value.int .i64 me) (fun wr hwr => by simp only [execOp, (F5.eval 20 (by omega)).trans (show _ = Value.pointer (some ⟨hb, 0, none⟩) from by simp [upd, e0, e4])]; simp [go_sem, VH wr hwr]) fun F6 => ?_
        refine lyp F6 rfl HCC rfl (by omega) (wanted_none rfl) (v := Value.bool true) (fun wr hwr => by simp only [execOp, (F6.eval 17 (by omega)).trans (show _ = Value.int .i64 x.r from by simp [upd, e0, e4]), (F6.eval 21 (by omega)).trans (show _ = Value.int .i64 me from by simp [upd, e0, e4])]; simp [go_sem, Act.eval, hxm]) fun F7 => ?_
        refine ⟨fun _ => HCC, ?_⟩
        refine hK _ _ ?_
        clear F0 F1 F2 F3 F4 F5 F6 F7 e0 e4 VH VK
        simp only [Act.put, List.setIfInBounds_toArray, List.set_cons_succ, List.set_cons_zero]
        rw [if_pos (by simpa using hx)] at hap
        have HX2 : Hid (Below w.heap.size w ({ X with drawn := X.drawn + 1 } : World)) := HBX.out.drew
        have HR2 : Hid (Rng ({ X with drawn := X.drawn + 1 } : World) mb w.heap.size L (D ++ [x]) T') := Rng.same HR3.out rfl rfl
        have HW2 : Hid (World.ownsRow ({ X with drawn := X.drawn + 1 } : World) w.heap.size 105 7 (.slice ao (ownV me D).length cap) (ownV me D).length (flatV (ownV me D))) := ownsRow_same HRW.out (fun _ _ => rfl)
        obtain ⟨y0, y1, y2, y3, y4, y5, y6⟩ := HVB.keep (show ({ X with drawn := X.drawn + 1 } : World).heap[vb]? = X.heap[vb]? from rfl)
        simp only [Nat.zero_add] at y0 y1 y2 y3 y4 y5 y6
        have HAP : Hid _ := hap
        have HBD2 : Hid _ := hbd2
        rw [hap] at hbd2
        simp only [List.length_append, List.length_cons, List.length_nil] at hbd2
        clear HBX HR3 HRW HVB HM HKB hx hxm hap HCC
        generalize ({ X with drawn := X.drawn + 1 } : World) = X2 at *
        go_wp2_with (first | (at_builtin; go_must (refine wpList_appV rfl _ _ rfl w.heap.size (ownV me D).length _ (ownV me D) rfl HW2.out x rfl (by first | rfl | simp) (by omega) HX2.out.size ?_)))
        intro v' w5 ho5 hg5
        have hni5 := row_ne_it HR2.out HW2.out
        have hrn : Rng w5 mb w.heap.size L (D ++ [x]) T' := Rng.same HR2.out (hg5.chg.block mb (Rng.map HR2.out).lt (fun e => by have := (ownsRow_lt HW2.out e).1; have := HLT.out; omega)) (hg5.chg.block _ (Rng.lt HR2.out) (fun e => hni5 _ e rfl))
        have hb5 : Below w.heap.size w w5 := HX2.out.trans (hg5.below (fun j e => (ownsRow_lt HW2.out e).1) HX2.out.size)
        have HN : Hid (DgE mb w.heap.size me L w w5 v') := ⟨D ++ [x], T', hrn, hb5, by rw [HAP.out]; simpa using ho5⟩
        have HLF2 : Hid (rngLeft w5 mb w.heap.size < rngLeft wr mb w.heap.size) := show rngLeft w5 mb w.heap.size < rngLeft wr mb w.heap.size from by rw [hrn.left]; exact HLF.out
        clear ho5 hg5 hni5 hrn hb5 HR2 HW2 HX2
        go_wp2
        go_roundw
        case rel => exact HN.out
        case measure => exact HLF2.out
      · have hxm : ¬ x.r = me := hx
        rename_i K hK
        try rw [show ∀ a : Act, a.put none undef = a from fun _ => rfl]
        refine wp_region_mix (fun wq => Below X.heap.size X wq) (fun i => i == 99) 99 (by kernel_rfl) rfl (by kernel_rfl) (by kernel_rfl) (by kernel_rfl) ?_
        refine withFrP (N := 30) rfl ?_
        intro f0 F0 hff
        have e0 : f0 0 = Value.pointer (some ⟨hb, 0, none⟩) := hff 0
        have e4 : f0 4 = Value.pointer (some ⟨kb, 0, none⟩) := hff 4
        clear hff
        have HCC : (fun wq => Below X.heap.size X wq) (({ X with drawn := X.drawn + 1 } : World)) := (Below.drew (Below.refl X.heap.size X))
        have VH : ∀ wr, Below X.heap.size X wr → wr.cell? ⟨hb, 0, none⟩ = some (.int .i64 me) := fun wr hw => (hw.cell (p := ⟨hb, 0, none⟩) (World.block_lt_of_cell? X _ HM)).trans HM
        have VK : ∀ wr, Below X.heap.size X wr → wr.cell? ⟨kb, 0, none⟩ = some (.int .i64 x.r) := fun wr hw => (hw.cell (p := ⟨kb, 0, none⟩) (World.block_lt_of_cell? X _ HKB)).trans HKB
        refine lyp F0 rfl HCC rfl (by omega) (wanted_none rfl) (v := Value.pointer (some ⟨kb, 0, none⟩)) (fun wr hwr => by simp only [execOp, (F0.eval 4 (by omega)).trans (show _ = Value.pointer (some ⟨kb, 0, none⟩) from by simp [upd, e0, e4])]; simp [go_sem]) fun F1 => ?_
        refine lyp F1 rfl HCC rfl (by omega) (wanted_none rfl) (v := Value.int .i64 x.r) (fun wr hwr => by simp only [execOp, (F1.eval 16 (by omega)).trans (show _ = Value.pointer (some ⟨kb, 0, none⟩) from by simp [upd, e0, e4])]; simp [go_sem, VK wr hwr]) fun F2 => ?_
        refine lyp F2 rfl HCC rfl (by omega) (wanted_none rfl) (v := Value.pointer (some ⟨hb, 0, none⟩)) (fun wr hwr => by simp only [execOp, (F2.eval 0 (by omega)).trans (show _ = Value.pointer (some ⟨hb, 0, none⟩) from by simp [upd, e0, e4])]; first | rfl | simp [go_sem]) fun F3 => ?_
        refine lyp F3 rfl HCC rfl (by omega) (wanted_none rfl) (v := Value.pointer (some ⟨hb, 0, none⟩)) (fun wr hwr => by simp only [execOp, (F3.eval 18 (by omega)).trans (show _ = Value.pointer (some ⟨hb, 0, none⟩) from by simp [upd, e0, e4])]; simp [go_sem]) fun F4 => ?_
        refine lyp F4 rfl HCC rfl (by omega) (wanted_none rfl) (v := Value.pointer (some ⟨hb, 0, none⟩)) (fun wr hwr => by simp only [execOp, (F4.eval 19 (by omega)).trans (show _ = Value.pointer (some ⟨hb, 0, none⟩) from by simp [upd, e0, e4])]; simp [go_sem]) fun F5 => ?_
        refine lyp F5 rfl HCC rfl (by omega) (wanted_none rfl) (v := Value.int .i64 me) (fun wr hwr => by simp only [execOp, (F5.eval 20 (by omega)).trans (show _ = Value.pointer (some ⟨hb, 0, none⟩) from by simp [upd, e0, e4])]; simp [go_sem, VH wr hwr]) fun F6 => ?_
        refine lyp F6 rfl HCC rfl (by omega) (wanted_none rfl) (v := Value.bool false) (fun wr hwr => by simp only [execOp, (F6.eval 17 (by omega)).trans (show _ = Value.int .i64 x.r from by simp [upd, e0, e4]), (F6.eval 21 (by omega)).trans (show _ = Value.int .i64 me from by simp [upd, e0, e4])]; simp [go_sem, Act.eval, hxm]) fun F7 => ?_
        refine ⟨fun _ => HCC, ?_⟩
        refine hK _ _ ?_
        clear F0 F1 F2 F3 F4 F5 F6 F7 e0 e4 VH VK
        simp only [Act.put, List.setIfInBounds_toArray, List.set_cons_succ, List.set_cons_zero]
        rw [if_neg (by simpa using hx), List.append_nil] at hap
        have hrn : Rng ({ X with drawn := X.drawn + 1 } : World) mb w.heap.size L (D ++ [x]) T' := Rng.same HR3.out rfl rfl
        have HN : Hid (DgE mb w.heap.size me L w ({ X with drawn := X.drawn + 1 } : World) (.slice ao (ownV me D).length cap)) := ⟨D ++ [x], T', hrn, HBX.out.drew, by rw [hap]; exact ownsRow_same HRW.out (fun _ _ => rfl)⟩
        have HLF2 : Hid (rngLeft ({ X with drawn := X.drawn + 1 } : World) mb w.heap.size < rngLeft wr mb w.heap.size) := show _ from by rw [hrn.left]; exact HLF.out
        clear HBX HR3 HRW HVB HM HKB hx hxm hap hrn HCC
        generalize ({ X with drawn := X.drawn + 1 } : World) = X2 at *
        go_wp2
        go_roundw
        case rel => exact HN.out
        case measure => exact HLF2.out
end Go.Proofs.YtnphkmdanicemaaGreatDoor
