import Derived.Test.YtcnokgphioigoaaJq3
import Derived.Test.YtcnokgphioigoaaJq4
import Derived.Test.YtcnokgphioigoaaJq7
import Derived.Test.YtcnokgphioigoaaJq8
import Derived.Test.YtcnokgphioigoaaJJ
import Derived.BigQuiet
namespace Go.Proofs.Ytcnokgphioigoaa
open Go.RowKit Go.PlainAid
set_option linter.unusedVariables false
set_option linter.unusedSimpArgs false
set_option maxRecDepth 100000
set_option maxHeartbeats 3200000
theorem appends_anyG {L vn vc : Nat} {d : DK} {y : JV} {R : List (Ent L)} {vo : Option Addr} {bs : List UInt8} (w : World) (h : Held (d.es L d.x (JE L d.jb y d.dead) R) w) (hd : DKO d y) (hall : ∀ W, Below L w W → By W (.slice vo vn vc) bs) (hl : bs.length = vn) (hvn : vn ≤ 140737488351232) (hwr : d.x.writes ≤ 800000000000000000) :
    Calls Try.prog 58 #[.pointer (some ⟨d.kb, 0, none⟩), .slice vo vn vc] w (ApQ L d vn R w) := by
  cases hdd : d.dead with
  | true => exact appends_dead w h hd hall hl hvn hwr hdd
  | false =>
    cases ho : d.x.off with
    | true => exact appends_off w h hd hall hl hvn hwr hdd ho
    | false =>
      by_cases h8 : vn ≤ 8192
      · by_cases hrm : d.next + kS vn ≤ d.x.n
        · cases ha : d.x.armed with
          | false => exact appends_wholeG w h hd hall hl hvn hwr hdd ho h8 hrm (fun e => by rw [ha] at e; cases e)
          | true =>
            by_cases hk : kS vn ≤ d.x.whole
            · exact appends_wholeG w h hd hall hl hvn hwr hdd ho h8 hrm (fun _ => hk)
            · exact appends_tornG w h hd hall hl hvn hwr hdd ho h8 hrm ha (by omega)
        · exact appends_spaceG w h hd hall hl hvn hwr hdd ho h8 (by omega)
      · exact appends_bigG w h hd hall hl hvn hwr hdd ho (by omega)
theorem room_dead {jb : Nat} (w : World) (h : Blk w jb deadA 79) : Calls Try.prog 18 #[.pointer (some ⟨jb, 0, none⟩)] w fun e w' => e = .returned (.int .i64 0) ∧ ∃ q, w' = w.drewN q := by
  have c2 : w.cell? ⟨jb, 2, none⟩ = some (.int .i64 0) := h.cell 2
  have c3 : w.cell? ⟨jb, 3, none⟩ = some (.int .i64 0) := h.cell 3
  clear h
  go_enter Try.func18, Try.ntmps18
  go_wp2_with fail
  go_quiet (fail)
  go_wp2_with fail
  go_ret
  exact ⟨rfl, _, rfl⟩
theorem looks_liveG {L : Nat} {d : DK} {y : JV} {R : List (Ent L)} (w : World) (h : Held (d.es L d.x (y.es L d.jb) R) w) (hd : DKO d y) (hdd : d.dead = false) : Calls Try.prog 25 #[.pointer (some ⟨d.kb, 0, none⟩)] w fun e w' => e = .returned (.bool true) ∧ ∃ q, w' = w.drewN q := by
  obtain ⟨ho, hc, hve⟩ := hd.ehv
  obtain ⟨ig, ic, hie, _, _⟩ := im_lit (dk_im h) hd.n1
  have hB := dk_box h
  have c1 : w.cell? ⟨d.kb, 1, none⟩ = some (.pointer (some ⟨d.jb, 0, none⟩)) := hB.cell 1
  have c2 : w.cell? ⟨d.kb, 2, none⟩ = some (.slice (some ⟨ig, 0, none⟩) (d.x.n * 512) ic) := by rw [← hie]; exact hB.cell 2
  have c6 : w.cell? ⟨d.kb, 6, none⟩ = some (.slice ho d.hs.length hc) := by rw [← hve]; exact hB.cell 6
  have c7 : w.cell? ⟨d.kb, 7, none⟩ = some (.int .i64 (d.next : Int)) := hB.cell 7
  have c8 : w.cell? ⟨d.kb, 8, none⟩ = some (.bool false) := by have := hB.cell 8; rw [this]; exact congrArg some (congrArg Value.bool hdd)
  have hj := dk_j0 h
  have hlv := hd.live hdd
  have hlen : y.recs.length = d.hs.length := by have := congrArg List.length hlv.2.1; simpa using this
  have hn2 := hd.n2
  have hle := hd.le
  have hl := hd.hl
  have HLN : Hid (∀ q, Calls Try.prog 30 #[.pointer (some ⟨d.jb, 0, none⟩)] (w.drewN q) fun e w' => e = .returned (.int .i64 (d.hs.length : Int)) ∧ w' = w.drewN q) := fun q => by
    rw [← hlen]; exact len_any (w.drewN q) (hj.drewN q) (by omega)
  have HRM : Hid (∀ q, Calls Try.prog 18 #[.pointer (some ⟨d.jb, 0, none⟩)] (w.drewN q) fun e w' => e = .returned (.int .i64 ((d.x.n : Int) - (d.next : Int))) ∧ ∃ m, w' = (w.drewN q).drewN m) := fun q => by
    have h9 := room_any (w.drewN q) (hj.drewN q) (by rw [hlv.2.2.1, hlv.2.2.2.1]; exact hle) (by rw [hlv.2.2.2.1]; omega)
    rw [hlv.2.2.1, hlv.2.2.2.1, show ((d.x.n - d.next : Nat) : Int) = (d.x.n : Int) - (d.next : Int) by omega] at h9
    exact h9
  have HDD : Hid (∀ q, Calls Try.prog 42 #[.pointer (some ⟨d.jb, 0, none⟩)] (w.drewN q) fun e w' => e = .returned (.bool false) ∧ w' = w.drewN q) := fun q => dead_any (w.drewN q) (hj.drewN q)
  have hq : Int.tdiv ((d.x.n * 512 : Nat) : Int) 512 = (d.x.n : Int) := by rw [Int.tdiv_eq_ediv_of_nonneg (by omega)]; omega
  obtain ⟨N, hN⟩ : ∃ N, N = d.x.n := ⟨_, rfl⟩
  obtain ⟨len, hll⟩ : ∃ l, l = d.hs.length := ⟨_, rfl⟩
  rw [← hN] at c2 HRM hq hn2 hle
  rw [← hll] at c6 HLN hl
  clear h hd hve hie hB hj hlv hlen hN hll hdd
  go_enter Try.func25, Try.ntmps25
  go_wp2_with fail
  go_quiet (fail)
  have HX : Hid (∃ q, w.drewN nq = w.drewN q) := ⟨nq, rfl⟩
  have HLN2 : Hid (∀ q, Calls Try.prog 30 #[.pointer (some ⟨d.jb, 0, none⟩)] ((w.drewN nq).drewN q) fun e w' => e = .returned (.int .i64 (len : Int)) ∧ w' = (w.drewN nq).drewN q) := fun q => by rw [World.drewN_drewN]; exact HLN.out _
  have HRM2 : Hid (∀ q, Calls Try.prog 18 #[.pointer (some ⟨d.jb, 0, none⟩)] ((w.drewN nq).drewN q) fun e w' => e = .returned (.int .i64 ((N : Int) - (d.next : Int))) ∧ ∃ m, w' = ((w.drewN nq).drewN q).drewN m) := fun q => by rw [World.drewN_drewN]; exact HRM.out _
  have HDD2 : Hid (∀ q, Calls Try.prog 42 #[.pointer (some ⟨d.jb, 0, none⟩)] ((w.drewN nq).drewN q) fun e w' => e = .returned (.bool false) ∧ w' = (w.drewN nq).drewN q) := fun q => by rw [World.drewN_drewN]; exact HDD.out _
  have e1 : (w.drewN nq).cell? ⟨d.kb, 1, none⟩ = some (.pointer (some ⟨d.jb, 0, none⟩)) := c1
  have e8 : (w.drewN nq).cell? ⟨d.kb, 8, none⟩ = some (.bool false) := c8
  generalize w.drewN nq = X at HX HLN2 HRM2 HDD2 e1 e8 ⊢
  clear c1 c2 c6 c7 c8 HLN HRM HDD hq
  obtain ⟨rm, hrm⟩ : ∃ rm : Int, rm = (N : Int) - (d.next : Int) := ⟨_, rfl⟩
  go_wp2_with fail
  try rw [← hrm] at HRM2 ⊢
  clear hrm
  go_quiet (first | (go_at_call 30; refine Calls.quiet_of_same (HLN2.out _)) | (go_at_call 18; refine Calls.quiet_of (HRM2.out _)) | (go_at_call 42; refine Calls.quiet_of_same (HDD2.out _)))
  have HF : Hid (∃ q, X.drewN nq = w.drewN q) := by
    obtain ⟨q, e⟩ := HX.out
    exact ⟨q + nq, by rw [e, World.drewN_drewN]⟩
  generalize X.drewN nq = Y at HF ⊢
  clear HX HLN2 HRM2 HDD2 e1 e8
  go_wp2_with fail
  go_ret
  exact ⟨rfl, HF.out⟩
theorem looks_deadG {L : Nat} {d : DK} {y : JV} {R : List (Ent L)} (w : World) (h : Held (d.es L d.x ([boxE L d.jb deadA 79]) R) w) (hd : DKO d y) (hdd : d.dead = true) : Calls Try.prog 25 #[.pointer (some ⟨d.kb, 0, none⟩)] w fun e w' => e = .returned (.bool true) ∧ ∃ q, w' = w.drewN q := by
  obtain ⟨ho, hc, hve⟩ := hd.ehv
  obtain ⟨ig, ic, hie, _, _⟩ := im_lit (dk_im h) hd.n1
  have hB := dk_box h
  have c1 : w.cell? ⟨d.kb, 1, none⟩ = some (.pointer (some ⟨d.jb, 0, none⟩)) := hB.cell 1
  have c2 : w.cell? ⟨d.kb, 2, none⟩ = some (.slice (some ⟨ig, 0, none⟩) (d.x.n * 512) ic) := by rw [← hie]; exact hB.cell 2
  have c6 : w.cell? ⟨d.kb, 6, none⟩ = some (.slice ho d.hs.length hc) := by rw [← hve]; exact hB.cell 6
  have c7 : w.cell? ⟨d.kb, 7, none⟩ = some (.int .i64 (d.next : Int)) := hB.cell 7
  have c8 : w.cell? ⟨d.kb, 8, none⟩ = some (.bool true) := by have := hB.cell 8; rw [this]; exact congrArg some (congrArg Value.bool hdd)
  have hj := dk_j0 h
  have hn2 := hd.n2
  have hle := hd.le
  have hl := hd.hl
  have hjb : ∀ q, Blk (w.drewN q) d.jb deadA 79 := fun q => ((hj.drewN q).all (boxE L d.jb deadA 79) (by simp)).1
  have HLN : Hid (∀ q, Calls Try.prog 30 #[.pointer (some ⟨d.jb, 0, none⟩)] (w.drewN q) fun e w' => e = .returned (.int .i64 0) ∧ w' = w.drewN q) := fun q => len_dead (w.drewN q) (hjb q)
  have HRM : Hid (∀ q, Calls Try.prog 18 #[.pointer (some ⟨d.jb, 0, none⟩)] (w.drewN q) fun e w' => e = .returned (.int .i64 0) ∧ ∃ m, w' = (w.drewN q).drewN m) := fun q => room_dead (w.drewN q) (hjb q)
  have HDD : Hid (∀ q, Calls Try.prog 42 #[.pointer (some ⟨d.jb, 0, none⟩)] (w.drewN q) fun e w' => e = .returned (.bool true) ∧ w' = w.drewN q) := fun q => dead_yes (w.drewN q) (hjb q)
  have hq : Int.tdiv ((d.x.n * 512 : Nat) : Int) 512 = (d.x.n : Int) := by rw [Int.tdiv_eq_ediv_of_nonneg (by omega)]; omega
  obtain ⟨N, hN⟩ : ∃ N, N = d.x.n := ⟨_, rfl⟩
  obtain ⟨len, hll⟩ : ∃ l, l = d.hs.length := ⟨_, rfl⟩
  rw [← hN] at c2 hq hn2 hle
  rw [← hll] at c6 hl
  clear h hd hve hie hB hj hjb hN hll hdd
  go_enter Try.func25, Try.ntmps25
  go_wp2_with fail
  go_quiet (fail)
  have HX : Hid (∃ q, w.drewN nq = w.drewN q) := ⟨nq, rfl⟩
  have HLN2 : Hid (∀ q, Calls Try.prog 30 #[.pointer (some ⟨d.jb, 0, none⟩)] ((w.drewN nq).drewN q) fun e w' => e = .returned (.int .i64 0) ∧ w' = (w.drewN nq).drewN q) := fun q => by rw [World.drewN_drewN]; exact HLN.out _
  have HRM2 : Hid (∀ q, Calls Try.prog 18 #[.pointer (some ⟨d.jb, 0, none⟩)] ((w.drewN nq).drewN q) fun e w' => e = .returned (.int .i64 0) ∧ ∃ m, w' = ((w.drewN nq).drewN q).drewN m) := fun q => by rw [World.drewN_drewN]; exact HRM.out _
  have HDD2 : Hid (∀ q, Calls Try.prog 42 #[.pointer (some ⟨d.jb, 0, none⟩)] ((w.drewN nq).drewN q) fun e w' => e = .returned (.bool true) ∧ w' = (w.drewN nq).drewN q) := fun q => by rw [World.drewN_drewN]; exact HDD.out _
  have e1 : (w.drewN nq).cell? ⟨d.kb, 1, none⟩ = some (.pointer (some ⟨d.jb, 0, none⟩)) := c1
  have e8 : (w.drewN nq).cell? ⟨d.kb, 8, none⟩ = some (.bool true) := c8
  generalize w.drewN nq = X at HX HLN2 HRM2 HDD2 e1 e8 ⊢
  clear c1 c2 c6 c7 c8 HLN HRM HDD hq
  go_wp2_with fail
  go_quiet (first | (go_at_call 30; refine Calls.quiet_of_same (HLN2.out _)) | (go_at_call 18; refine Calls.quiet_of (HRM2.out _)) | (go_at_call 42; refine Calls.quiet_of_same (HDD2.out _)))
  have HF : Hid (∃ q, X.drewN nq = w.drewN q) := by
    obtain ⟨q, e⟩ := HX.out
    exact ⟨q + nq, by rw [e, World.drewN_drewN]⟩
  generalize X.drewN nq = Y at HF ⊢
  clear HX HLN2 HRM2 HDD2 e1 e8
  go_wp2_with fail
  go_ret
  exact ⟨rfl, HF.out⟩
end Go.Proofs.Ytcnokgphioigoaa
