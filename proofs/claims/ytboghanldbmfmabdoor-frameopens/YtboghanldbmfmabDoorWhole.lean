import Derived.Test.YtboghanldbmfmabDoorOpens
namespace Go.Proofs.YtboghanldbmfmabDoor
open Go.RowKit

theorem shelf_new {L : Nat} {w : World} (hL : L ≤ w.heap.size) :
    Shelf L w.heap.size (w.alloc (.cells #[.slice none 0 0, .slice none 0 0, .int .i64 0, .slice none 0 0, .slice none 0 0, .slice none 0 0] 28)) 0 (.slice none 0 0) (.slice none 0 0) [] none (.slice none 0 0) (.slice none 0 0) [] := by
  refine ⟨heap_alloc_new w _, hL, by omega, World.ownsRow_nil _ _ _ _, World.ownsRow_nil _ _ _ _, World.ownsRow_nil _ _ _ _, World.ownsRow_nil _ _ _ _, ?_, ?_, ?_, ?_, ?_, ?_, ?_⟩
  · intro g bs e; cases e
  · intro e he; cases he
  · intro e he; cases he
  · intro g bs e; cases e
  · intro g bs e; cases e
  · intro g hg; simp [Value.ownBlock] at hg
  · intro g hg; simp [Value.ownBlock] at hg
theorem fine_new : Fine 0 [] := ⟨⟨fun k e he => by simp at he, fun i j a b g _ ha => by simp at ha⟩, Nat.le_refl _, fun e he => by cases he⟩

set_option maxHeartbeats 1000000 in
theorem frameOpens_walk (ao : Option Addr) (n cap : Nat) (ps : List UInt8) (w : World) (hn : ps.length = n) (hx : n ≤ 9223372036854775807) (hnil : ao = none → n = 0 ∧ cap = 0) (hsrc : Src w ao ps) (hT : Tab w) (hcap : n ≤ cap) :
    Calls Tryd.prog 3 #[.slice ao n cap] w fun e w' => e = .returned (.bool true) ∧ Below w.heap.size w w' := by
  by_cases h1 : 65536 < n
  · go_enter Tryd.func3, Tryd.ntmps3
    go_wp2_with fail
    go_ret
    exact ⟨rfl, Below.refl _ _⟩
  go_enter Tryd.func3, Tryd.ntmps3
  go_wp2_with fail
  refine (alive_any _ hT).mono ?_
  rintro e w1 ⟨rfl, hb1⟩
  have hs1 := src_keep hsrc hb1
  go_wp2_with fail
  have hL : w.heap.size ≤ w1.heap.size := hb1.size
  have hS2 := shelf_new hL
  have hb2 : Below w.heap.size w (w1.alloc (.cells #[.slice none 0 0, .slice none 0 0, .int .i64 0, .slice none 0 0, .slice none 0 0, .slice none 0 0] 28)) := hb1.alloc hL _
  have hs2 := src_keep hsrc hb2
  generalize w1.alloc (.cells #[.slice none 0 0, .slice none 0 0, .int .i64 0, .slice none 0 0, .slice none 0 0, .slice none 0 0] 28) = w2 at *
  generalize w1.heap.size = s at *
  refine (turned_any ao n cap ps w2 hn (by omega) hnil hs2).mono ?_
  rintro e w3 ⟨co, cc, rfl, hcc, hcn, hs3, hco, hb3⟩
  have hS3 := hS2.below hb3
  have hb3' : Below w.heap.size w w3 := hb2.trans (hb3.mono hb2.size)
  have hz2 := hb2.size
  have hTT : ∀ {x : World}, Below w.heap.size w x → ∀ w', Below w.heap.size x w' → Tab w' := fun h w' h' => tab_below hT (h.trans h')
  have hsafe : ∀ (x : World) (lent : Option (Nat × List UInt8)), Safe w.heap.size x lent ao ps := fun x lent h0 ad e => .inl (by
    obtain ⟨ad', e', hc⟩ := hsrc h0
    rw [e] at e'
    cases e'
    have hb := World.block_lt_of_cell? w _ (hc 0 _ (List.getElem?_eq_getElem h0))
    unfold Addr.add at hb
    split at hb <;> exact hb)
  go_wp2_with fail
  refine (opens_any w.heap.size s w3 0 _ _ [] none _ _ [] ao n cap ps hS3 fine_new (by omega) (by simp) hn (by omega) hcap (src_keep hsrc hb3') (hsafe _ _) (hTT hb3')).mono ?_
  rintro e w4 ⟨rfl, lv4, hv4, ls4, lent4, fv4, wv4, fs4, hl4, hS4, hF4, h54, hb4⟩
  have hb4' := hb3'.trans hb4
  have e4 : ls4.length ≤ 0 := hl4
  have hs4 : Src w4 co (turnedL ps) := by
    cases co with
    | none => intro h0; obtain ⟨ad, e, _⟩ := hs3 h0; cases e
    | some ad =>
      obtain ⟨_, cur, hcur⟩ := hco ad rfl
      exact src_same hs3 (h54 _ cur hcur (fun g bs e => by cases e)).1
  have hsafe4 : Safe w.heap.size w4 lent4 co (turnedL ps) := fun _ ad e => .inr (by
    obtain ⟨_, cur, hcur⟩ := hco ad e
    obtain ⟨h1, h2⟩ := h54 _ cur hcur (fun g bs e => by cases e)
    exact ⟨⟨cur, h1.trans hcur⟩, h2⟩)
  go_wp2_with fail
  refine (opens_any w.heap.size s w4 1 _ _ ls4 lent4 _ _ fs4 co n cc (turnedL ps) hS4 hF4 (by omega) (by omega) (by simp [turnedL, hn]) (by omega) hcc hs4 hsafe4 (hTT hb4')).mono ?_
  rintro e w5 ⟨rfl, lv5, hv5, ls5, lent5, fv5, wv5, fs5, hl5, hS5, hF5, _, hb5⟩
  have hb5' := hb4'.trans hb5
  have e5 : ls5.length ≤ 0 := Nat.le_trans hl5 (by show ls4.length + 0 ≤ 0; omega)
  go_wp2_with fail
  refine (opens_any w.heap.size s w5 2 _ _ ls5 lent5 _ _ fs5 ao n cap ps hS5 hF5 (by omega) (by omega) hn (by omega) hcap (src_keep hsrc hb5') (hsafe _ _) (hTT hb5')).mono ?_
  rintro e w6 ⟨rfl, lv6, hv6, ls6, lent6, fv6, wv6, fs6, hl6, hS6, hF6, _, hb6⟩
  have hb6' := hb5'.trans hb6
  have e6 : ls6.length ≤ 2 := Nat.le_trans hl6 (by show ls5.length + 2 ≤ 2; omega)
  go_wp2_with fail
  refine (opens_any w.heap.size s w6 3 _ _ ls6 lent6 _ _ fs6 ao n cap ps hS6 hF6 (by omega) (by omega) hn (by omega) hcap (src_keep hsrc hb6') (hsafe _ _) (hTT hb6')).mono ?_
  rintro e w7 ⟨rfl, lv7, hv7, ls7, lent7, fv7, wv7, fs7, hl7, hS7, hF7, _, hb7⟩
  have hb7' := hb6'.trans hb7
  go_wp2_with fail
  refine (apart_any w.heap.size s w7 4 _ _ ls7 lent7 _ _ fs7 hS7 hF7.good (by have := hF7.few; omega) hF7.short).mono ?_
  rintro e w8 ⟨rfl, hb8⟩
  go_wp2_with fail
  go_ret
  exact ⟨rfl, hb7'.trans hb8⟩
end Go.Proofs.YtboghanldbmfmabDoor
