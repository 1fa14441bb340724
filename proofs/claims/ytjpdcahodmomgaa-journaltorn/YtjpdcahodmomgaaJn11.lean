import Derived.Test.YtjpdcahodmomgaaJn10
namespace Go.Proofs.Ytjpdcahodmomgaa
open Go.RowKit Go.PlainAid
set_option linter.unusedVariables false
set_option linter.unusedSimpArgs false
def jv0 (p n : Nat) : JV := ⟨p, .slice none 0 0, [], 0, n⟩
set_option maxRecDepth 100000 in
set_option maxHeartbeats 3200000 in
theorem open_none {L p s : Nat} {x : DV} {R : List (Ent L)} (w : World) (h : Held (dmE L p s x :: R) w) (ho : x.off = false) (hn : 1 ≤ x.n) (hxn : x.n ≤ 65536) (hlen : lenIn (secL x.b 0) ≤ 8192) (hbr : bearsB (secL x.b 0) (markL 1 0 (lenIn (secL x.b 0))) = false) :
    Calls Try.prog 14 #[.pointer (some ⟨p, 0, none⟩)] w fun e w' => ∃ jb, e = .returned (.tuple #[.pointer (some ⟨jb, 0, none⟩), .int .i64 0]) ∧ Held ((jv0 p x.n).es L jb ++ (dmE L p s x :: R)) w' ∧ Below w.heap.size w w' := by
  have hd : DM L p s x w := h.all _ (List.mem_cons_self ..)
  have HON : Hid _ := isOn_any w hd
  rw [ho] at HON
  have HSE : Hid _ := sectors_any w hd
  obtain ⟨w1, hw1⟩ : ∃ w1, w1 = w.alloc (.cells (jv0 p x.n).cs 80) := ⟨_, rfl⟩
  have hb1 : Below w.heap.size w w1 := by rw [hw1]; exact (Below.refl _ _).alloc (Nat.le_refl _) _
  have hB1 : Blk w1 w.heap.size (jv0 p x.n).cs 80 := by rw [hw1]; exact heap_alloc_new w _
  have hL : L ≤ w.heap.size := by have := hd.lt (Or.inl rfl : down p s p); omega
  obtain ⟨jb, hjb⟩ : ∃ jb, jb = w.heap.size := ⟨_, rfl⟩
  have h1 : Held ((jv0 p x.n).es L jb ++ (dmE L p s x :: R)) w1 := by
    have h2 : Held (boxE L jb (jv0 p x.n).cs 80 :: dmE L p s x :: R) w1 := Held.fresh h hb1 ⟨by rw [hjb]; exact hB1, by rw [hjb]; exact hL⟩ (fun k hk => by have : k = jb := hk; omega)
    have h3 : Held (tailE L 38 (.slice none 0 0) 0 [] :: boxE L jb (jv0 p x.n).cs 80 :: dmE L p s x :: R) w1 := h2.add (tail_nil _ _ _) (fun k hk => by cases hk)
    exact h3.perm (List.Perm.swap ..)
  have HRD : Hid _ := read_none w1 h1 ho hn hxn (Nat.zero_le _) hlen hbr
  have H1 : Hid (Held ((jv0 p x.n).es L jb ++ (dmE L p s x :: R)) w1 ∧ Below w.heap.size w w1) := ⟨h1, hb1⟩
  have hcs : (jv0 p x.n).cs = #[.pointer (some ⟨p, 0, none⟩), .slice none 0 0, .int .i64 0, .int .i64 (x.n : Int), .bool false] := rfl
  rw [hcs] at hw1
  clear h hd hb1 hB1 h1 hlen hbr hcs ho
  go_enter Try.func14, Try.ntmps14
  go_wp2_with fail
  refine Calls.mono HON.out ?_
  rintro e wa ⟨rfl, hwa⟩
  replace hwa := hwa.symm
  subst hwa
  clear HON
  go_wp2_with fail
  refine Calls.mono HSE.out ?_
  rintro e wa ⟨rfl, hwa⟩
  replace hwa := hwa.symm
  subst hwa
  clear HSE
  go_wp2_with fail
  rw [← hw1, ← hjb]
  have HJB : Hid (jb = w.heap.size) := hjb
  clear hw1 hjb
  go_loopw [6] (fun _ wr => wr = w1) (fun _ _ => 0)
  case atStart => rfl
  case round =>
    subst hrel
    go_wp2_with fail
    refine Calls.mono HRD.out ?_
    rintro e w2 ⟨rfl, hb2⟩
    have HF : Hid (∃ jb', Value.pointer (some ⟨jb, 0, none⟩) = Value.pointer (some ⟨jb', 0, none⟩) ∧ Held ((jv0 p x.n).es L jb' ++ (dmE L p s x :: R)) w2 ∧ Below w.heap.size w w2) := ⟨jb, rfl, H1.out.1.more hb2, H1.out.2.trans (hb2.mono H1.out.2.size)⟩
    clear HRD hb2 H1
    go_wp2_with fail
    go_ret2
    obtain ⟨jb', e1, h2, h3⟩ := HF.out
    cases e1
    exact ⟨jb, rfl, h2, h3⟩
/-- A disk of zeros has no record. -/
theorem zero_none (n : Nat) : lenIn (secL (fresh n).b 0) ≤ 8192 ∧ bearsB (secL (fresh n).b 0) (markL 1 0 (lenIn (secL (fresh n).b 0))) = false := by
  have e : secL (fresh n).b 0 = List.replicate 512 0 := by
    rw [List.eq_replicate_iff]
    exact ⟨secL_len _ _, fun b hb => by obtain ⟨j, _, rfl⟩ := List.mem_map.1 hb; rfl⟩
  rw [e]
  have e1 : lenIn (List.replicate 512 0) = 0 := by kernel_rfl
  have e2 : bearsB (List.replicate 512 0) (markL 1 0 0) = false := by kernel_rfl
  rw [e1]
  exact ⟨by omega, e2⟩
end Go.Proofs.Ytjpdcahodmomgaa
