import Derived.Test.YtfgnlfemckdfnaaBase
namespace Go.Proofs.Ytfgnlfemckdfnaa
open Go.RowKit Go.PlainAid
theorem putF_step (f n : Nat) (h : ¬ n < 128) : putF (f + 1) n = UInt8.ofNat (n % 128 + 128) :: putF f (n / 128) := by
  simp only [putF, if_neg h]
theorem putF_end (f n : Nat) (h : n < 128) : putF (f + 1) n = [UInt8.ofNat n] := by
  simp only [putF, if_pos h]
theorem or128 : ∀ x : Fin 256, x.val ||| 128 = x.val % 128 + 128 := by decide +kernel
theorem bits_or128 (m : Nat) : bits BinOp.or IntKind.u8 ((m : Int) % 256) 128 = ((UInt8.ofNat (m % 128 + 128)).toNat : Int) := by
  have h := (bits_nat IntKind.u8 8 (by decide) wraps_u8 (m % 256) 128 (by omega) (by omega)).2
  rw [show ((m : Int) % 256) = ((m % 256 : Nat) : Int) from by omega, show (128 : Int) = ((128 : Nat) : Int) from rfl, h]
  congr 1
  rw [or128 ⟨m % 256, by omega⟩, u8_of_lt (by omega)]
  simp only
  omega
theorem step_append_byt (w : World) {ops : Array Oper} {o : Oper} {a : Act} {K : Act → World → Prop} {Q : Exit → Act → World → Prop} {E : Prop} (hgd : o.guard = none) (s x : Operand)
    (ho : o.op = .call { callee := .builtin .append, args := #[s, x], argTypes := #[22, 22] })
    (base n : Nat) (v : Value) (xs t : List UInt8) (hs : a.eval s = v) (hown : w.ownsRow base 5 1 v n (xs.map B)) (ao : Option Addr) (m c : Nat) (hx : a.eval x = .slice ao m c)
    (hm : t.length = m) (hnil : ao = none → m = 0 ∧ c = 0) (hsrc : From w ao t)
    (hlen : n + m ≤ 140737488355328) (hbase : base ≤ w.heap.size)
    (h : ∀ ao cap w', w'.ownsRow base 5 1 (.slice ao (n + m) cap) (n + m) ((xs ++ t).map B) → w.grownBy w' v.ownBlock → K (a.put o.dst (.slice ao (n + m) cap)) w') :
    if Region.wanted o (yielded ops a.tmps) = true then Oper.wp Try.prog o a w K Q else E := by
  have hw : Region.wanted o (yielded ops a.tmps) = true := by simp [Region.wanted, hgd]
  rw [if_pos hw]
  obtain ⟨i0, hi, hz0, hz1, hz2⟩ := info_parts Try.info5
  cases ao with
  | none =>
    obtain ⟨rfl, rfl⟩ := hnil rfl
    obtain rfl : t = [] := List.eq_nil_of_length_eq_zero hm
    have hrun := run_append_owned_none (P := Try.prog) (w := w) base 22 o.type 5 i0 1 Try.underlying22 hi v n (xs.map B) hown
    obtain ⟨ao, cap, rfl, _, _, _, _⟩ := own_from hown
    unfold Oper.wp execOp
    simp only [ho, resolve, invoke, builtin, Sem.run_bind, Sem.run_pure, Result.andThen_ok, List.map_toArray, List.map_cons, List.map_nil, hs, hx, hrun]
    exact h ao cap w (by simpa using hown) (World.grownBy.refl _ _)
  | some ad =>
    obtain ⟨v', w', hr, h2, h3, h4⟩ := run_append_own (P := Try.prog) w base 22 o.type 5 i0 _ 1 1 Try.underlying22 hi hz0 hz1 hz2 rfl (by decide) v n (xs.map B) hown ad m c (t.map B) (by simp [hm]) (news_of hsrc) (oneCells t) (by unfold maxLen; omega) (by omega) hbase
    rw [← List.map_append] at h2
    obtain ⟨ao, cap, rfl, _, _, _, _⟩ := own_from h2
    unfold Oper.wp execOp
    simp only [ho, resolve, invoke, builtin, Sem.run_bind, Sem.run_pure, Result.andThen_ok, List.map_toArray, List.map_cons, List.map_nil, hs, hx, hr]
    exact h ao cap w' h2 h3
set_option maxHeartbeats 800000 in
theorem bytes_any (n : Nat) (w : World) (hn : n < 2 ^ 64) : Calls Try.prog 138 #[.int .u64 (n : Nat)] w fun e w' => ∃ v', e = .returned v' ∧ w'.ownsRow w.heap.size 5 1 v' (put n).length ((put n).map B) ∧ Below w.heap.size w w' := by
  have h10 : n < 128 ^ (9 + 1) := Nat.lt_of_lt_of_le hn (by decide)
  obtain ⟨b0, hb0⟩ : ∃ b0, b0 = w.heap.size := ⟨_, rfl⟩
  rw [← hb0]
  have hw0 : w.ownsRow b0 5 1 (.slice none 0 0) 0 (([] : List UInt8).map B) := World.ownsRow_nil w b0 5 1
  have hB0 : Below b0 w w := Below.refl _ _
  have hle0 : b0 ≤ w.heap.size := Nat.le_of_eq hb0
  clear hb0
  go_enter Try.func138, Try.ntmps138
  go_wp2
  go_loopw [0, 3] (fun u r wr => ∃ (f m : Nat) (pre : List UInt8), u = .int .u64 (m : Nat) ∧ m < 2 ^ 64 ∧ m < 128 ^ (f + 1) ∧ put n = pre ++ putF (f + 1) m ∧ f + pre.length ≤ 10 ∧ (∃ ao c, r = .slice ao pre.length c) ∧ wr.ownsRow b0 5 1 r pre.length (pre.map B) ∧ Below b0 w wr ∧ b0 ≤ wr.heap.size) (fun u _ _ => (intOf u).toNat)
  case atStart => exact ⟨9, n, [], rfl, hn, h10, rfl, by simp, ⟨none, 0, rfl⟩, hw0, hB0, hle0⟩
  case round =>
    obtain ⟨f, m, pre, rfl, hm, hmf, hput, hfl, ⟨ao, c, rfl⟩, hown, hbl, hle⟩ := hrel
    clear hn h10 hw0 hB0 hle0
    by_cases hlt : 127 < m
    · have hbits := bits_or128 m
      obtain ⟨f, rfl⟩ : ∃ g, f = g + 1 := by
        cases f with
        | zero => simp at hmf; omega
        | succ g => exact ⟨g, rfl⟩
      have hmf' : m / 128 < 128 ^ (f + 1) := by rw [Nat.pow_succ] at hmf; omega
      have hput' : put n = (pre ++ [UInt8.ofNat (m % 128 + 128)]) ++ putF (f + 1) (m / 128) := by
        rw [hput, putF_step _ _ (by omega)]; simp
      generalize UInt8.ofNat (m % 128 + 128) = u at *
      have hs1 := from_mark wr [u] #[.int .u8 (u.toNat : Int)] (0, 0) rfl
      have HP : Hid _ := hput'
      have HF : Hid _ := hmf'
      clear hput' hmf' hput hmf
      go_wp2_with (first
        | (at_builtin; go_must (refine wpList_append_bytes rfl _ _ rfl b0 _ _ _ rfl (hown.alloc _) _ 1 1 [u] rfl rfl (by intro h; cases h) hs1 (by omega) (by simp; omega) ?_))
        | fail)
      intro v1 w1 hown1 hg1
      replace hown1 : w1.ownsRow b0 5 1 v1 (pre ++ [u]).length ((pre ++ [u]).map B) := by simpa using hown1
      obtain ⟨ao1, cap1, rfl, _, _, _, _⟩ := own_from hown1
      have hg1' := grown_alloc hg1
      have hb1 : Below b0 w w1 := hbl.grown hg1' hle (fun k e => (hown.lt k e).1)
      have hl1 : b0 ≤ w1.heap.size := Nat.le_trans hle hg1'.size
      clear hg1 hg1' hown hbl hs1
      go_wp2
      go_roundw
      case rel => exact ⟨f, m / 128, pre ++ [u], by go_num, by omega, HF.out, HP.out, by simp; omega, ⟨_, _, rfl⟩, hown1, hb1, hl1⟩
      case measure => simp [intOf]; omega
    · have hbits : (UInt8.ofNat m).toNat = m := u8_of_lt (by omega)
      have hput' : pre ++ [UInt8.ofNat m] = put n := by rw [hput, putF_end _ _ (by omega)]
      generalize UInt8.ofNat m = u at *
      have hs1 := from_mark wr [u] #[.int .u8 (m : Int)] (0, 0) (by simp [B, hbits])
      have HP : Hid _ := hput'
      clear hput' hput hmf hbits
      go_wp2_with (first
        | (at_builtin; go_must (refine wpList_append_bytes rfl _ _ rfl b0 _ _ _ rfl (hown.alloc _) _ 1 1 [u] rfl rfl (by intro h; cases h) hs1 (by omega) (by simp; omega) ?_))
        | fail)
      intro v1 w1 hown1 hg1
      replace hown1 : w1.ownsRow b0 5 1 v1 (pre ++ [u]).length ((pre ++ [u]).map B) := by simpa using hown1
      rw [HP.out] at hown1
      obtain ⟨ao1, cap1, rfl, _, _, _, _⟩ := own_from hown1
      have hg1' := grown_alloc hg1
      have hb1 : Below b0 w w1 := hbl.grown hg1' hle (fun k e => (hown.lt k e).1)
      clear hg1 hg1' hown hbl hs1
      go_wp2
      go_ret
      exact ⟨_, rfl, hown1, hb1⟩
theorem own_stay {w w' : World} {base e s n : Nat} {v : Value} {xs : List Value} (h : w.ownsRow base e s v n xs) (hb : Below w.heap.size w w') : w'.ownsRow base e s v n xs := by
  refine ⟨h.1, ?_⟩
  rcases h.2 with h2 | ⟨g, c, cur, rfl, h3, h4, h5⟩
  · exact Or.inl h2
  · exact Or.inr ⟨g, c, cur, rfl, h3, (hb.block g (Array.getElem?_eq_some_iff.1 h4).1).trans h4, h5⟩
theorem WSt.stay {hb : Nat} {v : Value} {out : List UInt8} {w w' : World} (h : WSt hb v out w) (hw : Below w.heap.size w w') : WSt hb v out w' := ⟨(hw.block hb h.lt).trans h.blk, own_stay h.own hw⟩
theorem WStep.ofBelow {hb : Nat} {w w' : World} (h : Below w.heap.size w w') (hl : hb ≤ w.heap.size) : WStep hb w w' := ⟨h.mono hl, fun k _ _ _ hk _ _ => h.block k (Array.getElem?_eq_some_iff.1 hk).1⟩
theorem step_call_p (w : World) {ops : Array Oper} {o : Oper} {a : Act} {K : Act → World → Prop} {Q : Exit → Act → World → Prop} {E : Prop} (hgd : o.guard = none) {k : Nat} {args : Array Value} {Post : Ending → World → Prop} (hr : (execOp a.eval o).run Try.prog w = .ok (.enter k args) w) (hc : Calls Try.prog k args w Post)
    (h : ∀ e w', Post e w' → ∃ v, e = .returned v ∧ K (a.put o.dst v) w') : if Region.wanted o (yielded ops a.tmps) = true then Oper.wp Try.prog o a w K Q else E := by
  rw [if_pos (by simp [Region.wanted, hgd])]
  unfold Oper.wp
  rw [hr]
  refine hc.mono fun e w' hp => ?_
  obtain ⟨v, rfl, h'⟩ := h e w' hp
  exact h'
set_option maxRecDepth 100000 in
set_option maxHeartbeats 1600000 in
theorem put_any (hb n : Nat) (v : Value) (out : List UInt8) (w : World) (hS : WSt hb v out w) (hn : n < 2 ^ 64) (hl : out.length ≤ 1000000) :
    Calls Try.prog 135 #[.pointer (some ⟨hb, 0, none⟩), .int .u64 (n : Nat)] w fun e w' => ∃ v', e = .returned (.tuple #[]) ∧ WSt hb v' (out ++ put n) w' ∧ WStep hb w w' := by
  have hc := hS.cell
  have hlt := hS.lt
  have hpl := (put_len n hn).2.1
  go_enter Try.func135, Try.ntmps135
  go_region_law (first
    | (refine step_call_p _ rfl (k := 138) (args := #[.int .u64 (n : Nat)]) (by first | rfl | simp [go_sem]) (bytes_any n _ hn) ?_; rintro e w1 ⟨v1, rfl, hown, hbw⟩; refine ⟨_, rfl, ?_⟩; obtain ⟨ao1, cap1, rfl, _, hnil1, hfr1, _⟩ := own_from hown; have hS1 := hS.drew.stay hbw; have hc1 := hS1.cell; have hz1 := hS1.frozen)
    | (refine step_append_byt _ rfl (.tmp 8) (.tmp 10) rfl (hb + 1) out.length v out (put n) rfl hS1.own ao1 (put n).length cap1 rfl rfl hnil1 hfr1 (by omega) (by have := hS1.lt; omega) ?_; intro ao2 cap2 w2 hown2 hgr2; have hc2 := (hS1.grown hgr2).1; have hz2 := (hS1.grown hgr2).2))
  all_goals
    go_end0
    obtain ⟨hS2, hst⟩ := hS1.stored (out' := out ++ put n) (by simp) hown2 hgr2
    exact ⟨_, rfl, hS2, ((WStep.ofBelow hbw (Nat.le_of_lt hS.drew.lt)).trans hst).ofDrew⟩
end Go.Proofs.Ytfgnlfemckdfnaa
namespace Go.Proofs.Ytfgnlfemckdfnaa
open Go.RowKit Go.PlainAid
def WPost (hb : Nat) (out : List UInt8) (w : World) (r : Option (List UInt8)) (e : Ending) (w' : World) : Prop :=
  WStep hb w w' ∧ match r with
    | none => e = refused
    | some bs => e = .returned (.tuple #[]) ∧ ∃ v', WSt hb v' (out ++ bs) w'
set_option maxHeartbeats 800000 in
theorem number_w (hb b off lo hi : Nat) (v : Value) (out : List UInt8) (x lo' hi' : Int) (w : World) (hS : WSt hb v out w) (hx : w.cell? ⟨b, off, none⟩ = some (.int .i64 x)) (elo : lo' = lo) (ehi : hi' = hi) (hh : hi < 2 ^ 63) (hl : out.length ≤ 1000000) :
    Calls Try.prog 134 #[.pointer (some ⟨hb, 0, none⟩), .pointer (some ⟨b, off, none⟩), .int .i64 lo', .int .i64 hi'] w (WPost hb out w ((num lo hi).wr x)) := by
  by_cases h : lo' ≤ x ∧ x ≤ hi'
  · have hr : (num lo hi).wr x = some (put x.toNat) := by
      simp only [num]; rw [if_pos (by simp only [Bool.and_eq_true, decide_eq_true_eq]; omega)]
    obtain ⟨h1, h2⟩ := h
    rw [hr]
    obtain ⟨n, rfl⟩ : ∃ n : Nat, x = n := ⟨x.toNat, by omega⟩
    have e1 : ¬ ((n : Int) < lo') := by omega
    have e2 : ¬ (hi' < (n : Int)) := by omega
    go_enter Try.func134, Try.ntmps134
    go_wp2_with fail
    refine (put_any hb n v out _ hS (by omega) hl).mono ?_
    rintro e w1 ⟨v1, rfl, hS1, hst⟩
    go_wp2
    go_end0
    exact ⟨hst, rfl, v1, hS1⟩
  · have hr : (num lo hi).wr x = none := by
      simp only [num]; rw [if_neg (by simp only [Bool.and_eq_true, decide_eq_true_eq]; omega)]
    rw [hr]
    by_cases h1 : x < lo'
    · go_enter Try.func134, Try.ntmps134
      go_wp2
      exact ⟨rfl, WStep.refl _ _, rfl⟩
    · have h2 : hi' < x := by omega
      go_enter Try.func134, Try.ntmps134
      go_wp2
      exact ⟨rfl, WStep.refl _ _, rfl⟩
theorem bits_xor_ones (a : Nat) (h : a < 2 ^ 64) : bits BinOp.xor IntKind.u64 (a : Int) 18446744073709551615 = ((18446744073709551615 - a : Nat) : Int) := by
  have e : (BitVec.ofInt 64 (a : Int) ^^^ BitVec.ofInt 64 18446744073709551615).toNat = 18446744073709551615 - a := by
    have h1 : BitVec.ofInt 64 18446744073709551615 = BitVec.allOnes 64 := by decide
    rw [h1, BitVec.xor_allOnes, BitVec.toNat_not, BitVec.ofInt_natCast, BitVec.toNat_ofNat, Nat.mod_eq_of_lt h]
  show IntKind.u64.wrap (((BitVec.ofInt 64 (a : Int) ^^^ BitVec.ofInt 64 18446744073709551615).toNat : Nat) : Int) = _
  rw [e, IntKind.wrap_u64]
  omega
theorem bits_xor_zero (a : Nat) (h : a < 2 ^ 64) : bits BinOp.xor IntKind.u64 (a : Int) 0 = (a : Int) := by
  have e : (BitVec.ofInt 64 (a : Int) ^^^ BitVec.ofInt 64 0).toNat = a := by
    rw [show BitVec.ofInt 64 0 = 0#64 from rfl, BitVec.xor_zero, BitVec.ofInt_natCast, BitVec.toNat_ofNat, Nat.mod_eq_of_lt h]
  show IntKind.u64.wrap (((BitVec.ofInt 64 (a : Int) ^^^ BitVec.ofInt 64 0).toNat : Nat) : Int) = _
  rw [e, IntKind.wrap_u64]
  omega
theorem fold_any (x : Int) (w : World) (h1 : (-9223372036854775808 : Int) ≤ x) (h2 : x < 9223372036854775808) : Calls Try.prog 139 #[.int .i64 x] w fun e w' => e = .returned (.int .u64 (zig x : Nat)) ∧ w' = w := by
  have hz := zig_lt x h1 h2
  have hq : bits BinOp.xor IntKind.u64 (IntKind.u64.wrap (IntKind.u64.wrap x * 2)) (IntKind.u64.wrap (x / 9223372036854775808)) = ((zig x : Nat) : Int) := by
    by_cases h0 : 0 ≤ x
    · rw [shr63_nonneg h0 (by omega), show IntKind.u64.wrap 0 = 0 from rfl, u64_nonneg h0 (by omega)]
      have e : IntKind.u64.wrap (x * 2) = ((zig x : Nat) : Int) := by
        rw [IntKind.wrap_u64]; unfold zig; rw [if_pos h0]; omega
      rw [e, bits_xor_zero _ hz]
    · rw [shr63_neg (by omega) h1, show IntKind.u64.wrap (-1) = 18446744073709551615 from rfl, u64_neg (n := x) (by omega) (by omega)]
      have e : IntKind.u64.wrap ((x + 18446744073709551616) * 2) = ((18446744073709551615 - zig x : Nat) : Int) := by
        rw [IntKind.wrap_u64]; unfold zig; rw [if_neg h0]; omega
      rw [e, bits_xor_ones _ (by omega)]
      omega
  generalize zig x = z at *
  go_enter Try.func139, Try.ntmps139
  go_wp2
  go_ret
  exact ⟨rfl, rfl⟩
set_option maxHeartbeats 800000 in
theorem signed_w (hb b off : Nat) (v : Value) (out : List UInt8) (x : Int) (w : World) (hS : WSt hb v out w) (hx : w.cell? ⟨b, off, none⟩ = some (.int .i64 x)) (h1 : (-9223372036854775808 : Int) ≤ x) (h2 : x < 9223372036854775808) (hl : out.length ≤ 1000000) :
    Calls Try.prog 136 #[.pointer (some ⟨hb, 0, none⟩), .pointer (some ⟨b, off, none⟩)] w (WPost hb out w (signed.wr x)) := by
  have hr : signed.wr x = some (put (zig x)) := by
    simp only [signed]; rw [if_pos (by simp only [Bool.and_eq_true, decide_eq_true_eq]; omega)]
  rw [hr]
  have hz := zig_lt x h1 h2
  have hf := fold_any x w h1 h2
  generalize zig x = z at *
  go_enter Try.func136, Try.ntmps136
  go_wp2_with fail
  refine hf.mono ?_
  rintro e w1 ⟨rfl, rfl⟩
  go_wp2_with fail
  refine (put_any hb z v out _ hS hz hl).mono ?_
  rintro e w1 ⟨v1, rfl, hS1, hst⟩
  go_wp2
  go_end0
  exact ⟨hst, rfl, v1, hS1⟩
theorem all_take_succ (s : List UInt8) (p : UInt8 → Bool) (k : Nat) (u : UInt8) (h : s[k]? = some u) : (s.take (k + 1)).all p = ((s.take k).all p && p u) := by
  rw [List.take_add_one, h]; simp
theorem toList_str (s : List UInt8) : (⟨s.toArray⟩ : ByteArray).toList = s := by simp
theorem gt_run (s a : List UInt8) (w : World) : (binOp .gtr 9 (.string ⟨s.toArray⟩) (.string ⟨a.toArray⟩)).run Try.prog w = .ok (.bool (gt s a)) w := by
  rw [binOp_string_gtr, toList_str, toList_str]
  rfl
set_option maxHeartbeats 800000 in
theorem goodName_any (s a : List UInt8) (w : World) (hl : s.length ≤ 140737488355328) :
    Calls Try.prog 132 #[Str s, Str a] w fun e w' => e = .returned (.bool (good a s)) ∧ w' = w := by
  unfold Str
  have hgt := gt_run s a
  go_enter Try.func132, Try.ntmps132
  go_wp2
  go_loop [8] (fun i => ∃ k : Nat, k ≤ s.length ∧ i = .int .i64 k ∧ (s.take k).all fair = true) (fun i => s.length - (intOf i).toNat)
  case atStart => exact ⟨0, by omega, rfl, by simp⟩
  case round =>
    obtain ⟨k, hk, rfl, hall⟩ := hrel
    by_cases hlt : k < s.length
    · obtain ⟨u, hu⟩ : ∃ u, s[k]? = some u := ⟨s[k]'hlt, List.getElem?_eq_getElem hlt⟩
      have hs := all_take_succ s fair k u hu
      rw [hall, Bool.true_and] at hs
      have hub := byte_lt u
      have hget : ∀ h, ((⟨s.toArray⟩ : ByteArray)[k]'h) = u := by
        intro h
        rw [List.getElem?_eq_getElem hlt] at hu
        rw [← Option.some.inj hu]
        rfl
      have hbad : fair u = false → good a s = false := by
        intro h
        have : s.all fair = false := by
          rw [List.all_eq_false]
          exact ⟨u, List.mem_of_getElem? hu, by rw [h]; simp⟩
        simp [good, this]
      have HB : Hid _ := hbad
      have HS : Hid _ := hs
      clear hbad hs hu hall
      by_cases h1 : u.toNat < 33
      · have hf : fair u = false := by simp [fair]; omega
        go_wp2
        go_ret
        exact ⟨ret_bool (HB.out hf).symm, rfl⟩
      · by_cases h2 : 126 < u.toNat
        · have hf : fair u = false := by simp [fair]; omega
          go_wp2
          go_ret
          exact ⟨ret_bool (HB.out hf).symm, rfl⟩
        · have hf : fair u = true := by simp [fair]; omega
          go_wp2
          go_round
          case rel => exact ⟨k + 1, by omega, by go_num, by rw [HS.out]; exact hf⟩
          case measure => simp [intOf]; omega
    · have hk' : s.take k = s := List.take_of_length_le (by omega)
      rw [hk'] at hall
      have hg : (!Op.bytesLess s a && !s == a) = good a s := by simp [good, gt, hall]
      have HG : Hid _ := hg
      clear hall hk' hg hgt
      go_wp2
      go_ret
      exact ⟨ret_bool HG.out, rfl⟩
end Go.Proofs.Ytfgnlfemckdfnaa
namespace Go.Proofs.Ytfgnlfemckdfnaa
open Go.RowKit Go.PlainAid
theorem step_append_str (w : World) {ops : Array Oper} {o : Oper} {a : Act} {K : Act → World → Prop} {Q : Exit → Act → World → Prop} {E : Prop} (hgd : o.guard = none) (s x : Operand)
    (ho : o.op = .call { callee := .builtin .append, args := #[s, x], argTypes := #[22, 9] })
    (base n : Nat) (v : Value) (xs t : List UInt8) (hs : a.eval s = v) (hown : w.ownsRow base 5 1 v n (xs.map B)) (hx : a.eval x = .string ⟨t.toArray⟩)
    (hlen : n + t.length ≤ 140737488355328) (hbase : base ≤ w.heap.size)
    (h : ∀ ao cap w', w'.ownsRow base 5 1 (.slice ao (n + t.length) cap) (n + t.length) ((xs ++ t).map B) → w.grownBy w' v.ownBlock → K (a.put o.dst (.slice ao (n + t.length) cap)) w') :
    if Region.wanted o (yielded ops a.tmps) = true then Oper.wp Try.prog o a w K Q else E := by
  have hw : Region.wanted o (yielded ops a.tmps) = true := by simp [Region.wanted, hgd]
  rw [if_pos hw]
  obtain ⟨i0, hi, hz0, hz1, hz2⟩ := info_parts Try.info5
  have hsz : (⟨t.toArray⟩ : ByteArray).size = t.length := by simp [ByteArray.size]
  obtain ⟨v', w', hr, h2, h3, h4⟩ := Lib.run_append_own_string (P := Try.prog) w base 22 9 o.type 5 i0 Try.underlying22 Try.underlying9 hi hz0 hz1 hz2 v n (xs.map B) hown ⟨t.toArray⟩ (by unfold maxLen; omega) (by omega) hbase
  rw [hsz, strCells_str, ← List.map_append] at h2
  obtain ⟨ao, cap, rfl, _, _, _, _⟩ := own_from h2
  unfold Oper.wp execOp
  simp only [ho, resolve, invoke, builtin, Sem.run_bind, Sem.run_pure, Result.andThen_ok, List.map_toArray, List.map_cons, List.map_nil, hs, hx, hr]
  exact h ao cap w' h2 h3
set_option maxHeartbeats 800000 in
theorem text_w (hb b off : Nat) (n : Int) (v : Value) (out s a : List UInt8) (w : World) (hS : WSt hb v out w) (hx : w.cell? ⟨b, off, none⟩ = some (Str s)) (hl : out.length ≤ 1000000) (hs : s.length ≤ 1000000) :
    Calls Try.prog 137 #[.pointer (some ⟨hb, 0, none⟩), .pointer (some ⟨b, off, none⟩), .int .i64 n, Str a] w (WPost hb out w (if good a s then some s else none)) := by
  have hc := hS.cell
  obtain ⟨i0, hi, hz0, hz1, hz2⟩ := info_parts Try.info5
  by_cases hg : good a s = true
  · rw [if_pos hg]
    have hgn := goodName_any s a w (by omega)
    rw [hg] at hgn
    unfold Str at *
    clear hg
    have hlt := hS.lt
    go_enter Try.func137, Try.ntmps137
    go_wp2_with (go_at_call 132; refine hgn.mono ?_; rintro e w1 ⟨rfl, rfl⟩)
    go_region_law (refine step_append_str _ rfl (.tmp 20) (.tmp 23) rfl (hb + 1) out.length _ out s rfl hS.drew.own rfl (by omega) (by simp; omega) ?_; intro ao cap w2 hown hgr; have hc1 := (hS.drew.grown hgr).1; have hz1 := (hS.drew.grown hgr).2)
    all_goals
      go_end0
      obtain ⟨hS2, hst⟩ := hS.drew.stored (out' := out ++ s) (by simp) hown hgr
      exact ⟨hst.ofDrew, rfl, _, hS2⟩
  · have hg' : good a s = false := by simpa using hg
    rw [if_neg hg]
    have hgn := goodName_any s a w (by omega)
    rw [hg'] at hgn
    unfold Str at *
    clear hg hg'
    go_enter Try.func137, Try.ntmps137
    go_wp2_with (go_at_call 132; refine hgn.mono ?_; rintro e w1 ⟨rfl, rfl⟩)
    go_wp2
    exact ⟨rfl, WStep.refl _ _, rfl⟩
set_option maxHeartbeats 800000 in
theorem data_w (hb b off : Nat) (n : Int) (ao : Option Addr) (m c : Nat) (v : Value) (out s : List UInt8) (w : World) (hS : WSt hb v out w) (hx : w.cell? ⟨b, off, none⟩ = some (.slice ao m c)) (hm : s.length = m) (hnil : ao = none → m = 0 ∧ c = 0) (hsrc : From w ao s) (hl : out.length ≤ 1000000) (hs : m ≤ 140000000000000) :
    Calls Try.prog 133 #[.pointer (some ⟨hb, 0, none⟩), .pointer (some ⟨b, off, none⟩), .int .i64 n] w (WPost hb out w (some s)) := by
  have hc := hS.cell
  have hlt := hS.lt
  go_enter Try.func133, Try.ntmps133
  go_region_law (refine step_append_byt _ rfl (.tmp 10) (.tmp 13) rfl (hb + 1) out.length _ out s rfl hS.drew.own ao m c rfl hm hnil hsrc (by omega) (by simp; omega) ?_; intro ao cap w2 hown hgr; have hc1 := (hS.drew.grown hgr).1; have hz1 := (hS.drew.grown hgr).2)
  all_goals
    go_end0
    obtain ⟨hS2, hst⟩ := hS.drew.stored (out' := out ++ s) (by simp; omega) hown hgr
    exact ⟨hst.ofDrew, rfl, _, hS2⟩
end Go.Proofs.Ytfgnlfemckdfnaa
namespace Go.Proofs.Ytfgnlfemckdfnaa
open Go.RowKit Go.PlainAid
def WH (hb : Nat) : Value := .iface 140 (.pointer (some ⟨hb, 0, none⟩))
theorem num_len {lo hi : Nat} {x : Int} {p : List UInt8} (h : (num lo hi).wr x = some p) (hh : hi < 2 ^ 64 := by decide) : p.length ≤ 10 := by
  simp only [num] at h
  split at h
  · rename_i hx
    simp only [Bool.and_eq_true, decide_eq_true_eq] at hx
    cases h
    exact (put_len _ (by omega)).2.1
  · cases h
theorem name_wr (a s : List UInt8) : (name a).wr s = match (num 1 16).wr (s.length : Int) with
    | none => none
    | some p => match (if good a s then some s else none) with
      | none => none
      | some q => some (p ++ q) := by
  simp only [name, Codec.map, Codec.bind, text, Codec.guard, some', if_true]
  cases (num 1 16).wr (s.length : Int) with
  | none => rfl
  | some p =>
    simp only [Int.toNat_natCast, if_true]
    rfl
set_option maxRecDepth 100000 in
set_option maxHeartbeats 800000 in
theorem name_w (hb b off : Nat) (v : Value) (out s a : List UInt8) (w : World) (hS : WSt hb v out w) (hx : w.cell? ⟨b, off, none⟩ = some (Str s)) (hb' : b < hb) (hl : out.length ≤ 999000) (hs : s.length ≤ 140737488355328) :
    Calls Try.prog 72 #[WH hb, .pointer (some ⟨b, off, none⟩), Str a] w (WPost hb out w ((name a).wr s)) := by
  have hlt := hS.lt
  unfold WH
  unfold Str at *
  have hnew : (w.alloc (.cells #[.int .i64 (s.length : Int)] 3)).heap[w.heap.size]? = some (.cells #[.int .i64 (s.length : Int)] 3 (0, 0)) := heap_alloc_new w _
  have hcn : (w.alloc (.cells #[.int .i64 (s.length : Int)] 3)).cell? ⟨w.heap.size, 0, none⟩ = some (.int .i64 (s.length : Int)) := by rw [cell_of_row _ _ 0 _ 3 (0, 0) hnew]; rfl
  have hsa : WStep hb w (w.alloc (.cells #[.int .i64 (s.length : Int)] 3)) := WStep.alloc (by omega) _
  go_enter Try.func72, Try.ntmps72
  go_wp2_with fail
  refine (number_w hb w.heap.size 0 1 16 v out s.length 1 16 _ (hS.alloc _) hcn rfl rfl (by decide) (by omega)).mono ?_
  rintro e w1 ⟨hst, h⟩
  cases hr : (num 1 16).wr (s.length : Int) with
  | none =>
    have hn : (name a).wr s = none := by rw [name_wr, hr]
    rw [hr] at h
    subst h
    exact ⟨rfl, hsa.trans hst, by rw [hn]; rfl⟩
  | some p =>
    have hn : (name a).wr s = match (if good a s then some s else none) with
      | none => none
      | some q => some (p ++ q) := by rw [name_wr, hr]
    rw [hr] at h
    obtain ⟨rfl, v1, hS1⟩ := h
    have h16 : s.length ≤ 16 := by
      simp only [num] at hr
      split at hr
      · rename_i hh
        simp only [Bool.and_eq_true, decide_eq_true_eq] at hh
        omega
      · cases hr
    have hp : p.length ≤ 10 := num_len hr
    have c1 : w1.cell? ⟨w.heap.size, 0, none⟩ = some (.int .i64 (s.length : Int)) := hst.cellO hnew (by decide) (by omega)
    have c2 : w1.cell? ⟨b, off, none⟩ = some (.string ⟨s.toArray⟩) := (hst.cell hb').trans ((hsa.cell hb').trans hx)
    have hs2 := hsa.trans hst
    have HN : Hid _ := hn
    clear hnew hcn hsa hst hr hn
    generalize w.heap.size = k at *
    go_wp2_with fail
    refine (text_w hb b off s.length v1 (out ++ p) s a w1 hS1 c2 (by simp; omega) (by omega)).mono ?_
    rintro e w2 ⟨hst2, h2⟩
    by_cases hg : good a s = true
    · rw [if_pos hg] at h2
      obtain ⟨rfl, v2, hS2⟩ := h2
      go_wp2
      go_end0
      exact ⟨hs2.trans hst2, by rw [HN.out, if_pos hg]; exact ⟨rfl, v2, by rw [← List.append_assoc]; exact hS2⟩⟩
    · rw [if_neg hg] at h2
      subst h2
      exact ⟨rfl, hs2.trans hst2, by rw [HN.out, if_neg hg]; rfl⟩
end Go.Proofs.Ytfgnlfemckdfnaa
