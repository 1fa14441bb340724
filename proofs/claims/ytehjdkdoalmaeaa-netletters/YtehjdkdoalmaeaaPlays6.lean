import Derived.Test.YtehjdkdoalmaeaaPlays1
import Derived.Test.YtehjdkdoalmaeaaPlays2
import Derived.Test.YtehjdkdoalmaeaaPlays4
import Derived.Test.YtehjdkdoalmaeaaPlays5
namespace Go.Proofs.Ytehjdkdoalmaeaa
open Go.RowKit Go.PlainAid
set_option linter.unusedVariables false
set_option linter.unusedSimpArgs false
theorem mem_erase_small {room : Nat} {s : PS} (ha : PAg room s) {i : Nat} {x : Int × Int × List UInt8} (hx : x ∈ (s.lv.map LetV.k).eraseIdx i) : x.2.2.length ≤ 1048576 := by
  obtain ⟨y, hy, rfl⟩ := List.mem_map.1 (List.mem_of_mem_eraseIdx hx)
  exact ha.small y hy
theorem mem_small {room : Nat} {s : PS} (ha : PAg room s) {x : Int × Int × List UInt8} (hx : x ∈ s.lv.map LetV.k) : x.2.2.length ≤ 1048576 := by
  obtain ⟨y, hy, rfl⟩ := List.mem_map.1 hx
  exact ha.small y hy
/-- The reference's letter beside the bag's. -/
theorem both {room : Nat} {s : PS} (ha : PAg room s) {i : Nat} (hi : i < s.lv.length) : ∃ l m, s.lv[i]? = some l ∧ s.lr[i]? = some m ∧ m.f = l.f ∧ m.t = l.t ∧ m.bs = l.bs ∧ l.bs.length ≤ 1048576 := by
  have hlens : s.lr.length = s.lv.length := by have := congrArg List.length ha.keys; simpa using this.symm
  refine ⟨s.lv[i]'hi, s.lr[i]'(by omega), List.getElem?_eq_getElem _, List.getElem?_eq_getElem _, ?_⟩
  have := congrArg (fun l => l[i]?) ha.keys
  simp only [List.getElem?_map, List.getElem?_eq_getElem hi, List.getElem?_eq_getElem (show i < s.lr.length by omega), Option.map_some, Option.some.injEq, LetV.k, Prod.mk.injEq] at this
  exact ⟨this.1.symm, this.2.1.symm, this.2.2.symm, ha.small _ (List.getElem_mem hi)⟩
set_option maxHeartbeats 1600000 in
theorem plays_any {L pb hbn hbr room n : Nat} {s : PS} (w : World) (h : PInv L pb hbn hbr room s w) (ha : PAg room s) (hF : PFull s) (hc : PCnt n s) (hn : n ≤ 3000) (hroom : room ≤ 1024) (hLw : L ≤ w.heap.size) (hLb : L ≤ pb ∧ L ≤ hbn ∧ L ≤ hbr) (hfl : s.fl = []) (o : OpA)
    (hln : o.l.bs.length ≤ 1048576) (hnil : o.l.ao = none → o.l.bs.length = 0 ∧ o.l.cap = 0) (hsrc : From w o.l.ao o.l.bs) (hlow : 0 < o.l.bs.length → ∀ b q, o.l.ao = some ⟨b, q, none⟩ → b < w.heap.size ∧ ¬ s.has pb hbn hbr b) :
    Calls Try.prog 23 #[.pointer (some ⟨pb, 0, none⟩), .agg (opC o)] w fun e w' => e = .returned (.bool true) ∧ ∃ s', PPost L pb hbn hbr room n s s' w w' := by
  have hlens : s.lr.length = s.lv.length := by have := congrArg List.length ha.keys; simpa using this.symm
  have hlr : s.lv.length ≤ 1024 := Nat.le_trans ha.len hroom
  have hkl : (s.lv.map LetV.k).length ≤ room := by rw [List.length_map]; exact ha.len
  by_cases k1 : o.kind = 1
  · exact plays_send w h ha hF hc hroom hLw hLb hfl o k1 hln hnil hsrc hlow
  by_cases k2 : o.kind = 2
  · by_cases hi : 0 ≤ o.i ∧ o.i < s.lv.length
    · obtain ⟨i, hi'⟩ : ∃ i : Nat, o.i = (i : Int) := ⟨o.i.toNat, by omega⟩
      obtain ⟨l, m, hl, hm, mf, mt, mb, hsz⟩ := both ha (i := i) (by omega)
      refine plays_del w h hF hc hn hLw o k2 l.f l.t 0 (s.lv.eraseIdx i) (s.lr.eraseIdx i) l.bs hsz ?_ ?_ ?_
      · rw [hi']; exact del_yes hfl hlr i l hl
      · rw [hi', ← mf, ← mt, ← mb]; exact rdel_yes hLw (by omega) i m hm (by rw [mb]; exact hsz)
      · intro s' e1 e2
        refine ag_keys ((s.lv.map LetV.k).eraseIdx i) (by rw [e1, map_erase]) (by rw [e2, map_erase, ← ha.keys]) ?_ (fun x hx => mem_erase_small ha hx)
        exact Nat.le_trans (List.eraseIdx_sublist _ _).length_le hkl
    · refine plays_del w h hF hc hn hLw o k2 0 0 40 s.lv s.lr [] (by simp) ?_ ?_ ?_
      · exact no_bag hfl hLw fun X hB => deliver_no X hB o.i hi
      · exact no_ref fun X v hB => rdeliver_no X hB o.i (by rw [hlens]; exact hi)
      · intro s' e1 e2
        exact ag_keys (s.lv.map LetV.k) (by rw [e1]) (by rw [e2, ← ha.keys]) hkl (fun x hx => mem_small ha hx)
  by_cases k7 : o.kind = 7
  · by_cases hi : 0 ≤ o.i ∧ o.i < s.lv.length
    · obtain ⟨i, hi'⟩ : ∃ i : Nat, o.i = (i : Int) := ⟨o.i.toNat, by omega⟩
      obtain ⟨l, m, hl, hm, mf, mt, mb, hsz⟩ := both ha (i := i) (by omega)
      refine plays_at w h hF hc hn hLw o k7 l.f l.t 0 s.lv s.lr l.bs hsz ?_ ?_ ?_
      · rw [hi']; exact at_yes hfl hLw hlr i l hl hsz
      · rw [hi', ← mf, ← mt, ← mb]; exact rat_yes (by omega) i m hm (by rw [mb]; exact hsz)
      · intro s' e1 e2
        exact ag_keys (s.lv.map LetV.k) (by rw [e1]) (by rw [e2, ← ha.keys]) hkl (fun x hx => mem_small ha hx)
    · refine plays_at w h hF hc hn hLw o k7 0 0 40 s.lv s.lr [] (by simp) ?_ ?_ ?_
      · exact no_bag hfl hLw fun X hB => at_no X hB o.i hi
      · exact no_ref fun X v hB => rat_no X hB o.i (by rw [hlens]; exact hi)
      · intro s' e1 e2
        exact ag_keys (s.lv.map LetV.k) (by rw [e1]) (by rw [e2, ← ha.keys]) hkl (fun x hx => mem_small ha hx)
  by_cases k3 : o.kind = 3
  · by_cases hi : 0 ≤ o.i ∧ o.i < s.lv.length
    · obtain ⟨i, hi'⟩ : ∃ i : Nat, o.i = (i : Int) := ⟨o.i.toNat, by omega⟩
      obtain ⟨l, m, hl, hm, mf, mt, mb, hsz⟩ := both ha (i := i) (by omega)
      refine plays_drop w h hF hc o k3 0 ((s.lv.map LetV.k).eraseIdx i) ?_ ?_ (Nat.le_trans (List.eraseIdx_sublist _ _).length_le hkl) (fun x hx => mem_erase_small ha hx)
      · rw [hi']; exact drop_yes hfl hlr i l hl
      · rw [hi', ha.keys]; exact rdrop_yes hLw (by omega) i (by omega)
    · refine plays_drop w h hF hc o k3 40 (s.lv.map LetV.k) ?_ ?_ hkl (fun x hx => mem_small ha hx)
      · exact bag_same hfl fun X hB => drop_no X hB o.i hi
      · rw [ha.keys]; exact ref_same fun X v hB => below_same (rdrop_no X hB o.i (by rw [hlens]; exact hi))
  by_cases k4 : o.kind = 4
  · by_cases hi : 0 ≤ o.i ∧ o.i < s.lv.length
    · obtain ⟨i, hi'⟩ : ∃ i : Nat, o.i = (i : Int) := ⟨o.i.toNat, by omega⟩
      obtain ⟨l, m, hl, hm, mf, mt, mb, hsz⟩ := both ha (i := i) (by omega)
      by_cases hfull : s.lv.length < room
      · refine plays_double w h hF hc o k4 0 (s.lv.map LetV.k ++ [l.k]) ?_ ?_ (by simp; omega) (fun x hx => ?_)
        · rw [hi']; exact double_yes hfl hLw hroom hfull i l hl hsz
        · rw [hi', ha.keys, show l.k = m.k from by simp [LetV.k, mf, mt, mb]]; exact rdouble_yes hLw hroom (by omega) i m hm (by rw [mb]; exact hsz)
        · rcases List.mem_append.1 hx with q | q
          · exact mem_small ha q
          · simp only [List.mem_singleton] at q
            subst q
            exact hsz
      · have hle := ha.len
        refine plays_double w h hF hc o k4 41 (s.lv.map LetV.k) ?_ ?_ hkl (fun x hx => mem_small ha hx)
        · rw [hi']; exact bag_same hfl fun X hB => double_full X hB hroom (by omega) i l hl
        · rw [hi', ha.keys]; exact ref_same fun X v hB => rdouble_full X hB hroom (by omega) i m hm (by rw [mb]; omega)
    · refine plays_double w h hF hc o k4 40 (s.lv.map LetV.k) ?_ ?_ hkl (fun x hx => mem_small ha hx)
      · exact bag_same hfl fun X hB => below_same (double_no X hB o.i hi)
      · rw [ha.keys]; exact ref_same fun X v hB => rdouble_no X hB o.i (by rw [hlens]; exact hi)
  by_cases k5 : o.kind = 5
  · by_cases hi : (0 ≤ o.i ∧ o.i < s.lv.length) ∧ (0 ≤ o.j ∧ o.j < s.lv.length)
    · obtain ⟨i, hi'⟩ : ∃ i : Nat, o.i = (i : Int) := ⟨o.i.toNat, by omega⟩
      obtain ⟨j, hj'⟩ : ∃ j : Nat, o.j = (j : Int) := ⟨o.j.toNat, by omega⟩
      obtain ⟨l, m, hl, hm, mf, mt, mb, hsz⟩ := both ha (i := i) (by omega)
      have hil : i < s.lv.length := by omega
      refine plays_move w h hF hc o k5 0 (((s.lv.map LetV.k).eraseIdx i).insertIdx j l.k) ?_ ?_ ?_ (fun x hx => ?_)
      · rw [hi', hj']; exact move_yes hfl hlr i j l hl (by omega)
      · rw [hi', hj', ha.keys, show l.k = m.k from by simp [LetV.k, mf, mt, mb]]; exact rmove_yes hLw (by omega) i j m hm (by omega)
      · have hp := (move_perm hl (show j < s.lv.length by omega)).length_eq
        have := congrArg List.length (map_insert LetV.k (s.lv.eraseIdx i) j l)
        rw [map_erase, List.length_map, hp] at this
        rw [← this]
        exact ha.len
      · have e : ((s.lv.map LetV.k).eraseIdx i).insertIdx j l.k = ((s.lv.eraseIdx i).insertIdx j l).map LetV.k := by rw [map_insert, map_erase]
        rw [e] at hx
        obtain ⟨y, hy, rfl⟩ := List.mem_map.1 hx
        exact ha.small y ((move_perm hl (show j < s.lv.length by omega)).mem_iff.1 hy)
    · refine plays_move w h hF hc o k5 40 (s.lv.map LetV.k) ?_ ?_ hkl (fun x hx => mem_small ha hx)
      · exact bag_same hfl fun X hB => below_same (move_no X hB o.i o.j hi)
      · rw [ha.keys]; exact ref_same fun X v hB => below_same (rmove_no X hB o.i o.j (by rw [hlens]; exact hi))
  by_cases k6 : o.kind = 6
  · exact plays_len w h ha hF hc hfl o k6
  exact plays_other w h ha hF hc hfl o ⟨k1, k2, k3, k4, k5, k6, k7⟩
end Go.Proofs.Ytehjdkdoalmaeaa
