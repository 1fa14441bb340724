import Derived.Test.YtbjlaloofpdbfaaSm
import Derived.Lib.ConvBytes
namespace Go.Proofs.Ytbjlaloofpdbfaa
open Go.RowKit Go.PlainAid
set_option linter.unusedVariables false
set_option linter.unusedSimpArgs false
set_option maxRecDepth 100000 in
set_option maxHeartbeats 1600000 in
theorem rgood_any (n : List UInt8) (W : World) (hlim : n.length ≤ 140737488355328) : Calls Try.prog 15 #[.string ⟨n.toArray⟩] W fun e w' => e = .returned (.bool (nameB n)) ∧ w' = W := by
  have hsz : (⟨n.toArray⟩ : ByteArray).size = n.length := rfl
  by_cases h1 : n.length < 1
  · have hr : nameB n = false := by simp [nameB]; omega
    go_enter Try.func15, Try.ntmps15
    go_wp2_with fail
    go_ret
    exact ⟨by first | rfl | (rw [hr]; rfl) | simp [hr], rfl⟩
  by_cases h2 : 16 < n.length
  · have hr : nameB n = false := by simp [nameB]; omega
    go_enter Try.func15, Try.ntmps15
    go_wp2_with fail
    go_ret
    exact ⟨by first | rfl | (rw [hr]; rfl) | simp [hr], rfl⟩
  go_enter Try.func15, Try.ntmps15
  go_wp2_with fail
  go_loopw [3] (fun i wr => ∃ q : Nat, q ≤ n.length ∧ i = .int .i64 q ∧ (∀ x ∈ n.take q, okB x = true) ∧ wr = W) (fun i _ => n.length - (intOf i).toNat)
  case atStart => exact ⟨0, Nat.zero_le _, rfl, by simp, rfl⟩
  case round =>
    obtain ⟨q, hq, rfl, hpre, rfl⟩ := hrel
    by_cases hlt : q < n.length
    · obtain ⟨b, hbb⟩ : ∃ b, b = (⟨n.toArray⟩ : ByteArray)[q]'hlt := ⟨_, rfl⟩
      have hb : n[q]? = some b := by rw [hbb]; exact List.getElem?_eq_getElem hlt
      have HP : Hid _ := hpre
      have HB : Hid _ := hb
      clear hpre hb
      by_cases c1 : b.toNat < 33
      · have hr : nameB n = false := by
          have hall : n.all okB = false := by
            apply Bool.eq_false_iff.2
            intro h
            have := List.all_eq_true.1 h b (List.mem_of_getElem? HB.out)
            simp [okB] at this
            omega
          simp [nameB, hall]
        rw [hbb] at c1
        clear hbb
        go_wp2_with fail
        go_ret
        exact ⟨by first | rfl | (rw [hr]; rfl) | simp [hr], rfl⟩
      by_cases c2 : 126 < b.toNat
      · have hr : nameB n = false := by
          have hall : n.all okB = false := by
            apply Bool.eq_false_iff.2
            intro h
            have := List.all_eq_true.1 h b (List.mem_of_getElem? HB.out)
            simp [okB] at this
            omega
          simp [nameB, hall]
        rw [hbb] at c1 c2
        clear hbb
        go_wp2_with fail
        go_ret
        exact ⟨by first | rfl | (rw [hr]; rfl) | simp [hr], rfl⟩
      · have hok : okB b = true := by simp [okB]; omega
        have HOK : Hid _ := hok
        rw [hbb] at c1 c2
        clear hok
        go_wp2_with fail
        go_roundw
        case rel => exact ⟨q + 1, by omega, by go_num, by
          intro x hx
          rw [List.take_add_one, HB.out] at hx
          rcases List.mem_append.1 hx with h | h
          · exact HP.out x h
          · simp at h; subst h; exact HOK.out, by first | rfl | trivial⟩
        case measure => simp [intOf]; omega
    · have hr : nameB n = true := by
        have : n.take q = n := List.take_of_length_le (by omega)
        rw [this] at hpre
        simp [nameB]
        exact ⟨by omega, hpre⟩
      clear hpre
      go_wp2_with fail
      go_ret
      exact ⟨by first | rfl | (rw [hr]; rfl) | simp [hr], rfl⟩
theorem wraps_u32 (n : Int) (h₀ : 0 ≤ n) (h₁ : n < 2 ^ 32) : IntKind.u32.wrap n = n := by
  simp only [IntKind.wrap, IntKind.bits, IntKind.signed]
  simp
  omega
theorem wrap_u32' (n : Int) : IntKind.u32.wrap n = n % 4294967296 := by
  simp only [IntKind.wrap, IntKind.bits, IntKind.signed]
  simp
theorem bits_xor_u32 (a b : Nat) (ha : a < 2 ^ 32) (hb : b < 2 ^ 32) : bits BinOp.xor IntKind.u32 (a : Int) (b : Int) = ((a ^^^ b : Nat) : Int) := by
  have hx : a ^^^ b < 2 ^ 32 := Nat.xor_lt_two_pow ha hb
  have ha' : a % 2 ^ IntKind.u32.bits = a := Nat.mod_eq_of_lt ha
  have hb' : b % 2 ^ IntKind.u32.bits = b := Nat.mod_eq_of_lt hb
  simp only [bits, BitVec.ofInt_natCast, BitVec.toNat_xor, BitVec.toNat_ofNat, ha', hb']
  exact wraps_u32 _ (Int.natCast_nonneg _) (by omega)
theorem bits_xor_i64 (a b : Nat) (ha : a < 2 ^ 32) (hb : b < 2 ^ 32) : bits BinOp.xor IntKind.i64 (a : Int) (b : Int) = ((a ^^^ b : Nat) : Int) := by
  have hx : a ^^^ b < 2 ^ 32 := Nat.xor_lt_two_pow ha hb
  have ha' : a % 2 ^ IntKind.i64.bits = a := Nat.mod_eq_of_lt (by show a < 2 ^ 64; omega)
  have hb' : b % 2 ^ IntKind.i64.bits = b := Nat.mod_eq_of_lt (by show b < 2 ^ 64; omega)
  simp only [bits, BitVec.ofInt_natCast, BitVec.toNat_xor, BitVec.toNat_ofNat, ha', hb']
  rw [IntKind.wrap_i64]
  omega
/-- Bytes that can be read. -/
def BFrom (w : World) (ao : Option Addr) (bs : List UInt8) : Prop := 0 < bs.length → ∃ b off, ao = some ⟨b, off, none⟩ ∧ ∀ j u, bs[j]? = some u → w.cell? ⟨b, off + j, none⟩ = some (.int .u8 (u.toNat : Int))
def hstep (h : Nat) (u : UInt8) : Nat := ((h ^^^ u.toNat) * 16777619) % 4294967296
def hrun (bs : List UInt8) : Nat := bs.foldl hstep 2166136261
def hashN (bs : List UInt8) : Nat := hrun bs ^^^ (hrun bs / 65536)
theorem hfold_lt : ∀ (bs : List UInt8) (h : Nat), h < 4294967296 → bs.foldl hstep h < 4294967296
  | [], h, hh => hh
  | u :: t, h, hh => hfold_lt t _ (Nat.mod_lt _ (by decide))
theorem hrun_lt (bs : List UInt8) : hrun bs < 4294967296 := hfold_lt bs _ (by decide)
theorem foldl_succ {α β : Type} (f : β → α → β) (h0 : β) {bs : List α} {k : Nat} {u : α} (h : bs[k]? = some u) : (bs.take (k + 1)).foldl f h0 = f ((bs.take k).foldl f h0) u := by
  rw [List.take_add_one, h, List.foldl_append]
  rfl
theorem hrun_succ {bs : List UInt8} {k : Nat} {u : UInt8} (h : bs[k]? = some u) : hrun (bs.take (k + 1)) = hstep (hrun (bs.take k)) u := by
  unfold hrun
  exact foldl_succ hstep _ h
theorem hashN_lt (bs : List UInt8) : hashN bs < 4294967296 := by
  have h := hrun_lt bs
  unfold hashN
  generalize hrun bs = s at *
  have h2 : s ^^^ (s / 65536) < 2 ^ 32 := Nat.xor_lt_two_pow (by omega) (by omega)
  omega
def homeN (n : List UInt8) (r : Int) : Int := if r < 1 then 0 else (hashN n : Int) % r
set_option maxRecDepth 100000 in
set_option maxHeartbeats 1600000 in
theorem hash_any (ao : Option Addr) (n cap : Nat) (bs : List UInt8) (w : World) (hn : bs.length = n) (hm : n ≤ 281474976710656) (hA : BFrom w ao bs) :
    Calls Try.prog 10 #[.slice ao n cap] w fun e w' => e = .returned (.int .u32 (hashN bs : Nat)) ∧ w' = w := by
  have hsg : IntKind.u32.signed = false := rfl
  go_enter Try.func10, Try.ntmps10
  go_wp2_with fail
  go_loopw [3, 8] (fun s i wr => ∃ k : Nat, k ≤ n ∧ i = .int .i64 k ∧ s = .int .u32 (hrun (bs.take k) : Nat) ∧ wr = w) (fun _ i _ => n - (intOf i).toNat)
  case atStart => exact ⟨0, by omega, rfl, rfl, rfl⟩
  case round =>
    obtain ⟨k, hk, rfl, rfl, rfl⟩ := hrel
    have hsl := hrun_lt (bs.take k)
    by_cases hlt : k < n
    · obtain ⟨u, hu⟩ : ∃ u, bs[k]? = some u := ⟨bs[k]'(by omega), List.getElem?_eq_getElem _⟩
      obtain ⟨b, off, rfl, hcv⟩ := hA (by omega)
      have hc := hcv k u hu
      clear hcv
      have HS : Hid (hrun (bs.take (k + 1)) = hstep (hrun (bs.take k)) u) := hrun_succ hu
      clear hu hA
      generalize hrun (bs.take k) = s at *
      have hub : u.toNat < 256 := u.toNat_lt
      have hx1 : bits BinOp.xor IntKind.u32 (s : Int) (u.toNat : Int) = ((s ^^^ u.toNat : Nat) : Int) := bits_xor_u32 _ _ hsl (by omega)
      have hx1l : s ^^^ u.toNat < 2 ^ 32 := Nat.xor_lt_two_pow hsl (by omega)
      have HS' : Hid (hrun (bs.take (k + 1)) = ((s ^^^ u.toNat) * 16777619) % 4294967296) := HS.out
      clear HS
      have hwu : IntKind.u32.wrap (u.toNat : Int) = (u.toNat : Int) := by rw [wrap_u32']; omega
      have hmd : (u.toNat : Int) % 4294967296 = (u.toNat : Int) := by omega
      generalize s ^^^ u.toNat = x1 at *
      have hmu : IntKind.u32.wrap ((x1 : Int) * 16777619) = ((x1 * 16777619 % 4294967296 : Nat) : Int) := by rw [wrap_u32']; omega
      go_wp2_with fail
      go_roundw
      case rel => exact ⟨k + 1, by omega, by go_num, congrArg (Value.int .u32) (by rw [HS'.out]; omega), by first | rfl | trivial⟩
      case measure => simp [intOf]; omega
    · have hk' : bs.take k = bs := List.take_of_length_le (by omega)
      rw [hk'] at hsl ⊢
      have HH : Hid (hashN bs = hrun bs ^^^ (hrun bs / 65536)) := rfl
      generalize hrun bs = s at *
      have hx1 : bits BinOp.xor IntKind.u32 (s : Int) ((s : Int) / 65536) = ((s ^^^ (s / 65536) : Nat) : Int) := by
        rw [show ((s : Int) / 65536) = ((s / 65536 : Nat) : Int) from by omega]
        exact bits_xor_u32 _ _ hsl (by omega)
      
      go_wp2_with fail
      go_ret
      exact ⟨by rw [HH.out]; rfl, rfl⟩
set_option maxRecDepth 100000 in
set_option maxHeartbeats 1600000 in
theorem rhash_any (ao : Option Addr) (n cap : Nat) (bs : List UInt8) (w : World) (hn : bs.length = n) (hm : n ≤ 281474976710656) (hA : BFrom w ao bs) :
    Calls Try.prog 11 #[.slice ao n cap] w fun e w' => e = .returned (.int .i64 (hashN bs : Nat)) ∧ w' = w := by
  have hsg : IntKind.u32.signed = false := rfl
  go_enter Try.func11, Try.ntmps11
  go_wp2_with fail
  go_loopw [3, 4] (fun s i wr => ∃ k : Nat, k ≤ n ∧ i = .int .i64 k ∧ s = .int .i64 (hrun (bs.take k) : Nat) ∧ wr = w) (fun _ i _ => n - (intOf i).toNat)
  case atStart => exact ⟨0, by omega, rfl, rfl, rfl⟩
  case round =>
    obtain ⟨k, hk, rfl, rfl, rfl⟩ := hrel
    have hsl := hrun_lt (bs.take k)
    by_cases hlt : k < n
    · obtain ⟨u, hu⟩ : ∃ u, bs[k]? = some u := ⟨bs[k]'(by omega), List.getElem?_eq_getElem _⟩
      obtain ⟨b, off, rfl, hcv⟩ := hA (by omega)
      have hc := hcv k u hu
      clear hcv
      have HS : Hid (hrun (bs.take (k + 1)) = hstep (hrun (bs.take k)) u) := hrun_succ hu
      clear hu hA
      generalize hrun (bs.take k) = s at *
      have hub : u.toNat < 256 := u.toNat_lt
      have hx1 : bits BinOp.xor IntKind.i64 (s : Int) (u.toNat : Int) = ((s ^^^ u.toNat : Nat) : Int) := bits_xor_i64 _ _ hsl (by omega)
      have hx1l : s ^^^ u.toNat < 2 ^ 32 := Nat.xor_lt_two_pow hsl (by omega)
      have HS' : Hid (hrun (bs.take (k + 1)) = ((s ^^^ u.toNat) * 16777619) % 4294967296) := HS.out
      clear HS
      have hwu : IntKind.i64.wrap (u.toNat : Int) = (u.toNat : Int) := by rw [IntKind.wrap_i64]; omega
      have hmd : (u.toNat : Int) % 4294967296 = (u.toNat : Int) := by omega
      generalize s ^^^ u.toNat = x1 at *
      have hmu : IntKind.i64.wrap ((x1 : Int) * 16777619) = (x1 : Int) * 16777619 := by rw [IntKind.wrap_i64]; omega
      go_wp2_with fail
      go_roundw
      case rel => exact ⟨k + 1, by omega, by go_num, congrArg (Value.int .i64) (by rw [HS'.out]; omega), by first | rfl | trivial⟩
      case measure => simp [intOf]; omega
    · have hk' : bs.take k = bs := List.take_of_length_le (by omega)
      rw [hk'] at hsl ⊢
      have HH : Hid (hashN bs = hrun bs ^^^ (hrun bs / 65536)) := rfl
      generalize hrun bs = s at *
      have hx1 : bits BinOp.xor IntKind.i64 (s : Int) ((s : Int) / 65536) = ((s ^^^ (s / 65536) : Nat) : Int) := by
        rw [show ((s : Int) / 65536) = ((s / 65536 : Nat) : Int) from by omega]
        exact bits_xor_i64 _ _ hsl (by omega)
      have htd : (s : Int).tdiv 65536 = (s : Int) / 65536 := by rw [Int.tdiv_eq_ediv_of_nonneg (by omega)]
      go_wp2_with fail
      go_ret
      exact ⟨by rw [HH.out]; rfl, rfl⟩
set_option maxRecDepth 100000 in
set_option maxHeartbeats 1600000 in
theorem home_any (n : List UInt8) (r : Int) (w : World) (hm : n.length ≤ 140737488355328) (hr : -9223372036854775808 ≤ r ∧ r ≤ 9223372036854775807) :
    Calls Try.prog 12 #[.string ⟨n.toArray⟩, .int .i64 r] w fun e w' => e = .returned (.int .i64 (homeN n r)) ∧ Below w.heap.size w w' := by
  unfold homeN
  by_cases h1 : r < 1
  · rw [if_pos h1]
    go_enter Try.func12, Try.ntmps12
    go_wp2_with fail
    go_ret
    exact ⟨rfl, Below.refl _ _⟩
  · rw [if_neg h1]
    have hcv := Lib.run_convert_string_bytes (P := Try.prog) w 9 22 5 ⟨n.toArray⟩ Try.underlying9 Try.underlying22 Try.underlying5
    rw [show (⟨n.toArray⟩ : ByteArray).size = n.length from rfl] at hcv
    obtain ⟨Y, hY⟩ : ∃ Y, Y = Lib.bytesWorld w 5 ⟨n.toArray⟩ := ⟨_, rfl⟩
    have hb : Below w.heap.size w Y := by rw [hY]; exact ⟨rfl, rfl, rfl, by rw [Lib.bytesWorld_size]; omega, fun j hj => Lib.bytesWorld_at_old w 5 _ j hj⟩
    have hF : BFrom Y (some ⟨w.heap.size, 0, none⟩) n := fun _ => ⟨_, _, rfl, fun j u hu => by
      have hj := (List.getElem?_eq_some_iff.1 hu).1
      rw [hY, Nat.zero_add, Lib.bytesWorld_cell w 5 ⟨n.toArray⟩ j hj]
      show some (Value.int .u8 ((n.getD j 0).toNat : Int)) = _
      rw [List.getD_eq_getElem?_getD, hu]
      rfl⟩
    have HH : Hid (∀ cap, _) := fun cap => hash_any (some ⟨w.heap.size, 0, none⟩) n.length cap n Y rfl (by omega) hF
    have hhl := hashN_lt n
    have hwc : IntKind.i64.wrap ((hashN n : Nat) : Int) = ((hashN n : Nat) : Int) := by rw [IntKind.wrap_i64]; omega
    have htm : ((hashN n : Nat) : Int).tmod r = ((hashN n : Nat) : Int) % r := Int.tmod_eq_emod_of_nonneg (by omega)
    have hr0 : ¬ r = 0 := by omega
    rw [← hY] at hcv
    clear hY hF
    have HB : Hid _ := hb
    generalize hashN n = h at *
    clear hb
    go_enter Try.func12, Try.ntmps12
    go_wp2_with fail
    refine Calls.mono (HH.out _) ?_
    rintro e w' ⟨rfl, hw'⟩
    replace hw' := hw'.symm
    subst hw'
    go_wp2_with fail
    go_ret
    exact ⟨by first | rfl | (rw [htm]), HB.out⟩
set_option maxRecDepth 100000 in
set_option maxHeartbeats 1600000 in
theorem rhome_any (n : List UInt8) (r : Int) (w : World) (hm : n.length ≤ 140737488355328) (hr : -9223372036854775808 ≤ r ∧ r ≤ 9223372036854775807) :
    Calls Try.prog 13 #[.string ⟨n.toArray⟩, .int .i64 r] w fun e w' => e = .returned (.int .i64 (homeN n r)) ∧ Below w.heap.size w w' := by
  unfold homeN
  by_cases h1 : r < 1
  · rw [if_pos h1]
    go_enter Try.func13, Try.ntmps13
    go_wp2_with fail
    go_ret
    exact ⟨rfl, Below.refl _ _⟩
  · rw [if_neg h1]
    have hcv := Lib.run_convert_string_bytes (P := Try.prog) w 9 22 5 ⟨n.toArray⟩ Try.underlying9 Try.underlying22 Try.underlying5
    rw [show (⟨n.toArray⟩ : ByteArray).size = n.length from rfl] at hcv
    obtain ⟨Y, hY⟩ : ∃ Y, Y = Lib.bytesWorld w 5 ⟨n.toArray⟩ := ⟨_, rfl⟩
    have hb : Below w.heap.size w Y := by rw [hY]; exact ⟨rfl, rfl, rfl, by rw [Lib.bytesWorld_size]; omega, fun j hj => Lib.bytesWorld_at_old w 5 _ j hj⟩
    have hF : BFrom Y (some ⟨w.heap.size, 0, none⟩) n := fun _ => ⟨_, _, rfl, fun j u hu => by
      have hj := (List.getElem?_eq_some_iff.1 hu).1
      rw [hY, Nat.zero_add, Lib.bytesWorld_cell w 5 ⟨n.toArray⟩ j hj]
      show some (Value.int .u8 ((n.getD j 0).toNat : Int)) = _
      rw [List.getD_eq_getElem?_getD, hu]
      rfl⟩
    have HH : Hid (∀ cap, _) := fun cap => rhash_any (some ⟨w.heap.size, 0, none⟩) n.length cap n Y rfl (by omega) hF
    have hhl := hashN_lt n
    have hwc : IntKind.i64.wrap ((hashN n : Nat) : Int) = ((hashN n : Nat) : Int) := by rw [IntKind.wrap_i64]; omega
    have htm : ((hashN n : Nat) : Int).tmod r = ((hashN n : Nat) : Int) % r := Int.tmod_eq_emod_of_nonneg (by omega)
    have hr0 : ¬ r = 0 := by omega
    rw [← hY] at hcv
    clear hY hF
    have HB : Hid _ := hb
    generalize hashN n = h at *
    clear hb
    go_enter Try.func13, Try.ntmps13
    go_wp2_with fail
    refine Calls.mono (HH.out _) ?_
    rintro e w' ⟨rfl, hw'⟩
    replace hw' := hw'.symm
    subst hw'
    go_wp2_with fail
    go_ret
    exact ⟨by first | rfl | (rw [htm]), HB.out⟩
end Go.Proofs.Ytbjlaloofpdbfaa
