import Derived.Test.YtgohjkamikpdcaaLt
import Derived.Test.YtgohjkamikpdcaaDeals
import Derived.Test.YtgohjkamikpdcaaP0
namespace Go.Proofs.Ytgohjkamikpdcaa
open Go.RowKit Go.PlainAid
set_option linter.unusedVariables false
set_option linter.unusedSimpArgs false
/-- A call of the list that came in. -/
structure AV where
  k : Int
  a : Int
  b : Int
  lo : Option Addr
  n : Nat
  c : Nat
  zs : List Int
def AV.cells (x : AV) : List Value := [.int .i64 x.k, .int .i64 x.a, .int .i64 x.b, .slice x.lo x.n x.c]
structure AOk (L : Nat) (w : World) (x : AV) : Prop where
  len : x.zs.length = x.n
  nil : x.lo = none → x.n = 0 ∧ x.c = 0
  src : FromI w x.lo x.zs
  lt : 0 < x.zs.length → ∀ b off, x.lo = some ⟨b, off, none⟩ → b < L
  room : (x.n + 2) * 8 ≤ 140737488355328
  aw : IntKind.i64.wrap x.a = x.a
  bw : IntKind.i64.wrap x.b = x.b
theorem FromI.belowL {w w' : World} {L : Nat} {ao : Option Addr} {zs : List Int} (h : FromI w ao zs) (hb : Below L w w') (hlt : 0 < zs.length → ∀ b off, ao = some ⟨b, off, none⟩ → b < L) : FromI w' ao zs := fun h0 => by
  obtain ⟨b, off, e, hc⟩ := h h0
  exact ⟨b, off, e, fun j z hz => (hb.cell (p := ⟨b, off + j, none⟩) (hlt h0 b off e)).trans (hc j z hz)⟩
theorem AOk.below {L : Nat} {w w' : World} {x : AV} (h : AOk L w x) (hb : Below L w w') : AOk L w' x := ⟨h.len, h.nil, h.src.belowL hb h.lt, h.lt, h.room, h.aw, h.bw⟩
/-- The list of calls in memory. -/
structure AL (L : Nat) (w : World) (ao : Option Addr) (xs : List AV) : Prop where
  ok : ∀ x ∈ xs, AOk L w x
  at' : ∀ i x, xs[i]? = some x → ∃ b o, ao = some ⟨b, o, none⟩ ∧ b < L ∧ ∀ j u, x.cells[j]? = some u → w.cell? ⟨b, o + i * 4 + j, none⟩ = some u
theorem AL.below {L : Nat} {w w' : World} {ao : Option Addr} {xs : List AV} (h : AL L w ao xs) (hb : Below L w w') : AL L w' ao xs :=
  ⟨fun x hx => (h.ok x hx).below hb, fun i x hx => by
    obtain ⟨b, o, e, hl, hc⟩ := h.at' i x hx
    exact ⟨b, o, e, hl, fun j u hu => (hb.cell (p := ⟨b, o + i * 4 + j, none⟩) hl).trans (hc j u hu)⟩⟩
/-- One call, whatever its kind. -/
theorem played_any {σ : Type} {L kb : Nat} (K : Keeper σ L kb) {s : σ} (x : AV) (w : World) (hI : K.Inv s w) (h : AOk L w x) (hcnt : K.cnt s + 36 ≤ 1000000000000) :
    Calls Try.prog 15 #[.pointer (some ⟨kb, 0, none⟩), .agg #[.int .i64 x.k, .int .i64 x.a, .int .i64 x.b, .slice x.lo x.n x.c]] w fun r w' => r = .returned (.bool true) ∧ ∃ s', K.Inv s' w' ∧ K.cnt s' ≤ K.cnt s + 36 ∧ Below L w w' := by
  have hsrc : 0 < x.zs.length → ∀ b off, x.lo = some ⟨b, off, none⟩ → ¬ K.bl s b := fun h0 b off e hb => by
    have := h.lt h0 b off e
    have := (K.lt hI hb).1
    omega
  have hlow := K.low hI
  have hq : ∀ {r : Ending} {w' : World}, r = .returned (.bool true) ∧ Below w.heap.size w w' → r = .returned (.bool true) ∧ ∃ s', K.Inv s' w' ∧ K.cnt s' ≤ K.cnt s + 36 ∧ Below L w w' := fun hr => ⟨hr.1, s, PB.inv K hI hr.2, by omega, hr.2.mono hlow⟩
  have hp : ∀ {r : Ending} {w' : World}, (r = .returned (.bool true) ∧ ∃ s', K.Inv s' w' ∧ K.cnt s' ≤ K.cnt s + 36 ∧ Chg (K.bl s) w w' ∧ ∀ k, K.bl s' k → K.bl s k ∨ w.heap.size ≤ k) → r = .returned (.bool true) ∧ ∃ s', K.Inv s' w' ∧ K.cnt s' ≤ K.cnt s + 36 ∧ Below L w w' := fun ⟨h0, s', h1, h2, h3, _⟩ => ⟨h0, s', h1, h2, h3.below hlow (fun k hk => (K.lt hI hk).1)⟩
  by_cases k1 : x.k = 1
  · rw [k1]; exact (played1 K x.a x.b h.aw h.bw w hI h.len h.nil h.src h.room hsrc (by omega)).mono fun r w' hr => hp hr
  by_cases k2 : x.k = 2
  · rw [k2]; exact (played2 K x.a x.b h.aw h.bw w hI h.len h.nil h.src h.room hsrc (by omega)).mono fun r w' hr => hp hr
  by_cases k3 : x.k = 3
  · rw [k3]; exact (played3 x.a x.b h.aw w h.len h.nil h.src h.room).mono fun r w' hr => hq hr
  by_cases k4 : x.k = 4
  · rw [k4]; exact (played4 x.a x.b h.aw w h.len h.nil h.src h.room).mono fun r w' hr => hq hr
  exact (played0 x.k ⟨k1, k2, k3, k4⟩ x.a x.b h.aw w h.len h.nil h.src h.room).mono fun r w' hr => hq hr
set_option maxRecDepth 100000 in
set_option maxHeartbeats 1600000 in
/-- All calls, and then the keep is whole. -/
theorem playedAll_any {σ : Type} {L kb : Nat} (K : Keeper σ L kb) (hwh : ∀ s w, K.Inv s w → K.cnt s ≤ 50000000000 → Calls Try.prog 30 #[.pointer (some ⟨kb, 0, none⟩)] w fun r w' => r = .returned (.bool true) ∧ Chg (K.bl s) w w') {s : σ} (ao : Option Addr) (n c : Nat) (xs : List AV) (w : World) (hI : K.Inv s w) (hx : AL L w ao xs) (hl : xs.length = n) (hn : n ≤ 1048576) (hc0 : K.cnt s = 0) :
    Calls Try.prog 16 #[.slice ao n c, .pointer (some ⟨kb, 0, none⟩)] w fun r w' => r = .returned (.bool true) ∧ Below L w w' := by
  have HI : Hid _ := hI
  have HX : Hid _ := hx
  have HL : Hid _ := hl
  have HC0 : Hid _ := hc0
  have HW : Hid _ := hwh
  clear hI hx hl hc0 hwh
  go_enter Try.func16, Try.ntmps16
  go_wp2_with fail
  go_loopw [5] (fun v wr => ∃ (i : Nat) (s' : σ), i ≤ n ∧ v = .int .i64 (i : Int) ∧ Hid (K.Inv s' wr ∧ K.cnt s' ≤ 36 * i ∧ Below L w wr)) (fun v _ => n - (intOf v).toNat)
  case atStart => exact ⟨0, s, Nat.zero_le _, rfl, HI.out, by rw [HC0.out]; omega, Below.refl _ _⟩
  case round =>
    clear HI
    obtain ⟨i, s', hie, rfl, HS⟩ := hrel
    by_cases hi : i < n
    · obtain ⟨x, hx⟩ : ∃ x, xs[i]? = some x := ⟨xs[i]'(by rw [HL.out]; exact hi), List.getElem?_eq_getElem _⟩
      obtain ⟨hI, hcn, hbl⟩ := HS.out
      have hA := HX.out.below hbl
      obtain ⟨b, o, rfl, hb, hc⟩ := hA.at' i x hx
      have d0 : wr.cell? ⟨b, o + i * 4, none⟩ = some (.int .i64 x.k) := hc 0 _ rfl
      have d1 : wr.cell? ⟨b, o + i * 4 + 1, none⟩ = some (.int .i64 x.a) := hc 1 _ rfl
      have d2 : wr.cell? ⟨b, o + i * 4 + 2, none⟩ = some (.int .i64 x.b) := hc 2 _ rfl
      have d3 : wr.cell? ⟨b, o + i * 4 + 3, none⟩ = some (.slice x.lo x.n x.c) := hc 3 _ rfl
      have HP : Hid _ := played_any K x wr hI (hA.ok x (List.mem_of_getElem? hx)) (by omega)
      have HB : Hid _ := And.intro hcn hbl
      clear hI hcn hbl hA hc HS hx
      go_wp2_with fail
      refine Calls.mono HP.out ?_
      rintro e w2 ⟨rfl, s2, hI2, hc2, hb2⟩
      have HS2 : Hid (K.Inv s2 w2 ∧ K.cnt s2 ≤ 36 * (i + 1) ∧ Below L w w2) := ⟨hI2, by have := HB.out.1; omega, HB.out.2.trans hb2⟩
      clear hI2 hc2 hb2 HP HB d0 d1 d2 d3
      go_wp2_with fail
      go_roundw
      case rel => exact ⟨i + 1, s2, by omega, by go_num, HS2⟩
      case measure => simp [intOf]; omega
    · have HWH : Hid _ := HW.out s' wr HS.out.1 (by have := HS.out.2.1; omega)
      go_wp2_with fail
      refine Calls.mono HWH.out ?_
      rintro e w2 ⟨rfl, hc⟩
      have HF : Hid (Below L w w2) := HS.out.2.2.trans (hc.below (K.low HS.out.1) (fun k hk => (K.lt HS.out.1 hk).1))
      clear hc HWH HS
      go_wp2_with fail
      go_ret
      exact ⟨rfl, HF.out⟩
end Go.Proofs.Ytgohjkamikpdcaa
