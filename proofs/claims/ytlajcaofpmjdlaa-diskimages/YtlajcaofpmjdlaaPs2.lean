import Derived.Test.YtlajcaofpmjdlaaPs
namespace Go.Proofs.Ytlajcaofpmjdlaa
open Go.RowKit Go.PlainAid
set_option linter.unusedVariables false
set_option linter.unusedSimpArgs false
theorem Held.sub {L : Nat} {es es' : List (Ent L)} {w : World} (h : Held es w) (hs : List.Sublist es' es) : Held es' w := ⟨fun e he => h.all e (hs.subset he), h.dj.sublist hs⟩
/-- An answer that is written full with a mark of its own. -/
theorem PH.keep {L pb : Nat} {S : SV} {dp rp lent : Value} {n vn vc : Nat} {vo : Option Addr} {bs : List UInt8} {R : List (Ent L)} {w : World} (h : PH L pb S dp rp lent n ([datE L (.slice vo vn vc, bs)] ++ R) w) (hk : S.Ok n) (hm : S.mark < n) (hn : n ≤ 100000) (hl : bs.length = vn) (hvn : vn ≤ 1000000000) :
    Calls Try.prog 57 #[.pointer (some ⟨pb, 2, none⟩), .slice vo vn vc] w fun e w' => ∃ S' : SV, e = .returned (.tuple #[]) ∧ S'.Ok n ∧ PH L pb S' dp rp lent n R w' ∧ Below L w w' := by
  have hL := h.low
  have h1 := (PH.parts.1 h).re _ _ [0, 1, 2, 12, 3, 4, 5, 6, 7, 8, 9, 10, 11, 13, 14, 15] (by decide)
  have h2 : Held (boxE L pb (S.cs dp rp lent n) 66 :: tailE L 30 S.bv S.kb.length (S.kb.map Prod.fst) :: tailE L 9 S.hv S.kb.length (S.kb.map fun d => strV d.2) :: datE L (.slice vo vn vc, bs) :: fl (prt pb S dp rp lent n [datE L (.slice vo vn vc, bs)] R) [3, 4, 5, 6, 7, 8, 9, 10, 11, 13, 14, 15]) w := h1
  refine (keep_any (mark := S.mark) w h2 rfl rfl rfl rfl (by omega) hl hvn hk.kb).mono ?_
  rintro e w' ⟨bv', hv', bs', d, rfl, hbl, hd, hn4, h3, hc⟩
  obtain ⟨F, hF⟩ : ∃ F : Nat → List (Ent L), F = fun i => if i = 0 then [boxE L pb ((((S.cs dp rp lent n).setIfInBounds 6 (.int .i64 ((S.mark + 1 : Nat) : Int))).setIfInBounds 2 bv').setIfInBounds 3 hv') 66] else if i = 1 then [tailE L 30 bv' (S.kb.length + 1 - d) ((S.kb.map Prod.fst ++ [Value.slice vo vn vc]).drop d)] else if i = 2 then [tailE L 9 hv' (S.kb.length + 1 - d) (((S.kb.map fun d => strV d.2) ++ [strV bs']).drop d)] else if i = 12 then [datE L (Value.slice vo vn vc, bs')] else prt pb S dp rp lent n [datE L (.slice vo vn vc, bs)] R i := ⟨_, rfl⟩
  have e0 : fl F [0, 1, 2, 12, 3, 4, 5, 6, 7, 8, 9, 10, 11, 13, 14, 15] = boxE L pb ((((S.cs dp rp lent n).setIfInBounds 6 (.int .i64 ((S.mark + 1 : Nat) : Int))).setIfInBounds 2 bv').setIfInBounds 3 hv') 66 :: tailE L 30 bv' (S.kb.length + 1 - d) ((S.kb.map Prod.fst ++ [Value.slice vo vn vc]).drop d) :: tailE L 9 hv' (S.kb.length + 1 - d) (((S.kb.map fun d => strV d.2) ++ [strV bs']).drop d) :: datE L (Value.slice vo vn vc, bs') :: fl (prt pb S dp rp lent n [datE L (.slice vo vn vc, bs)] R) [3, 4, 5, 6, 7, 8, 9, 10, 11, 13, 14, 15] := by rw [hF]; simp [fl, prt]
  rw [← e0] at h3
  have h4 := Held.re F [0, 1, 2, 12, 3, 4, 5, 6, 7, 8, 9, 10, 11, 13, 14, 15] [0, 1, 2, 3, 4, 5, 6, 7, 8, 9, 12, 10, 11, 13, 14, 15] (by decide) h3
  refine ⟨{ S with bv := bv', hv := hv', kb := (S.kb ++ [(Value.slice vo vn vc, bs')]).drop d, mark := S.mark + 1 }, rfl, ⟨by simp; omega, hk.ki, hk.kn, hk.lb, hk.ln, hk.lw, hk.sz, hm, hk.lbn, hk.lnn⟩, ?_, ?_⟩
  · have e : fl F [0, 1, 2, 3, 4, 5, 6, 7, 8, 9, 12, 10, 11, 13, 14, 15] = boxE L pb (SV.cs { S with bv := bv', hv := hv', kb := (S.kb ++ [(Value.slice vo vn vc, bs')]).drop d, mark := S.mark + 1 } dp rp lent n) 66 :: (SV.rows L { S with bv := bv', hv := hv', kb := (S.kb ++ [(Value.slice vo vn vc, bs')]).drop d, mark := S.mark + 1 } ++ (((S.kb ++ [(Value.slice vo vn vc, bs')]).map (datE L) ++ (S.ki.map (kiE L) ++ (S.lb.map (datE L) ++ (S.ln.map (intE L) ++ S.lw.map (intE L))))) ++ R)) := by
      rw [hF]
      simp [fl, prt, SV.rows, SV.data, SV.cs, List.map_drop]
    rw [e] at h4
    exact h4.sub (List.Sublist.cons_cons _ (List.Sublist.append (List.Sublist.refl _) (List.Sublist.append (List.Sublist.append (by show List.Sublist (((S.kb ++ [(Value.slice vo vn vc, bs')]).drop d).map (datE L)) _; rw [List.map_drop]; exact List.drop_sublist ..) (List.Sublist.refl _)) (List.Sublist.refl _))))
  · exact Held.below2 h2 hL hc (fun k hk => by
      rcases hk with e | e | e | e
      · exact ⟨_, List.mem_cons_self .., e⟩
      · exact ⟨_, List.mem_cons_of_mem _ (List.mem_cons_self ..), e⟩
      · exact ⟨_, List.mem_cons_of_mem _ (List.mem_cons_of_mem _ (List.mem_cons_self ..)), e⟩
      · exact ⟨_, List.mem_cons_of_mem _ (List.mem_cons_of_mem _ (List.mem_cons_of_mem _ (List.mem_cons_self ..))), e⟩)
/-- Numbers that are written full with a mark of their own. -/
theorem PH.keepInts {L pb : Nat} {S : SV} {dp rp lent : Value} {n vn vc : Nat} {vo : Option Addr} {zs : List Int} {R : List (Ent L)} {w : World} (h : PH L pb S dp rp lent n ([intE L (.slice vo vn vc, zs)] ++ R) w) (hk : S.Ok n) (hm : S.mark < n) (hn : n ≤ 100000) (hl : zs.length = vn) (hvn : vn ≤ 100000) :
    Calls Try.prog 60 #[.pointer (some ⟨pb, 2, none⟩), .slice vo vn vc] w fun e w' => ∃ S' : SV, e = .returned (.tuple #[]) ∧ S'.Ok n ∧ PH L pb S' dp rp lent n R w' ∧ Below L w w' := by
  have hL := h.low
  have h1 := (PH.parts.1 h).re _ _ [0, 3, 4, 12, 1, 2, 5, 6, 7, 8, 9, 10, 11, 13, 14, 15] (by decide)
  have h2 : Held (boxE L pb (S.cs dp rp lent n) 66 :: tailE L 44 S.iv S.ki.length (S.ki.map Prod.fst) :: tailE L 3 S.mv S.ki.length (S.ki.map fun d => I d.2.2) :: intE L (.slice vo vn vc, zs) :: fl (prt pb S dp rp lent n [intE L (.slice vo vn vc, zs)] R) [1, 2, 5, 6, 7, 8, 9, 10, 11, 13, 14, 15]) w := h1
  refine (keepInts_any (mark := S.mark) w h2 rfl rfl rfl rfl (by omega) hl hvn hk.ki).mono ?_
  rintro e w' ⟨iv', mv', d, rfl, hd, hn4, h3, hc⟩
  obtain ⟨F, hF⟩ : ∃ F : Nat → List (Ent L), F = fun i => if i = 0 then [boxE L pb ((((S.cs dp rp lent n).setIfInBounds 6 (.int .i64 ((S.mark + 1 : Nat) : Int))).setIfInBounds 4 iv').setIfInBounds 5 mv') 66] else if i = 3 then [tailE L 44 iv' (S.ki.length + 1 - d) ((S.ki.map Prod.fst ++ [Value.slice vo vn vc]).drop d)] else if i = 4 then [tailE L 3 mv' (S.ki.length + 1 - d) (((S.ki.map fun d => I d.2.2) ++ [I (-1000 - ((S.mark : Int) + 1))]).drop d)] else if i = 12 then [intE L (Value.slice vo vn vc, List.replicate vn (-1000 - ((S.mark : Int) + 1)))] else prt pb S dp rp lent n [intE L (.slice vo vn vc, zs)] R i := ⟨_, rfl⟩
  have e0 : fl F [0, 3, 4, 12, 1, 2, 5, 6, 7, 8, 9, 10, 11, 13, 14, 15] = boxE L pb ((((S.cs dp rp lent n).setIfInBounds 6 (.int .i64 ((S.mark + 1 : Nat) : Int))).setIfInBounds 4 iv').setIfInBounds 5 mv') 66 :: tailE L 44 iv' (S.ki.length + 1 - d) ((S.ki.map Prod.fst ++ [Value.slice vo vn vc]).drop d) :: tailE L 3 mv' (S.ki.length + 1 - d) (((S.ki.map fun d => I d.2.2) ++ [I (-1000 - ((S.mark : Int) + 1))]).drop d) :: intE L (Value.slice vo vn vc, List.replicate vn (-1000 - ((S.mark : Int) + 1))) :: fl (prt pb S dp rp lent n [intE L (.slice vo vn vc, zs)] R) [1, 2, 5, 6, 7, 8, 9, 10, 11, 13, 14, 15] := by rw [hF]; simp [fl, prt]
  rw [← e0] at h3
  have h4 := Held.re F [0, 3, 4, 12, 1, 2, 5, 6, 7, 8, 9, 10, 11, 13, 14, 15] [0, 1, 2, 3, 4, 5, 6, 7, 8, 9, 10, 12, 11, 13, 14, 15] (by decide) h3
  refine ⟨{ S with iv := iv', mv := mv', ki := (S.ki ++ [(Value.slice vo vn vc, vn, -1000 - ((S.mark : Int) + 1))]).drop d, mark := S.mark + 1 }, rfl, ⟨hk.kb, by simp; omega, ?_, hk.lb, hk.ln, hk.lw, hk.sz, hm, hk.lbn, hk.lnn⟩, ?_, ?_⟩
  · intro x hx
    rcases List.mem_append.1 (List.mem_of_mem_drop hx) with h5 | h5
    · exact hk.kn x h5
    · rw [List.mem_singleton.1 h5]; exact hvn
  · have e : fl F [0, 1, 2, 3, 4, 5, 6, 7, 8, 9, 10, 12, 11, 13, 14, 15] = boxE L pb (SV.cs { S with iv := iv', mv := mv', ki := (S.ki ++ [(Value.slice vo vn vc, vn, -1000 - ((S.mark : Int) + 1))]).drop d, mark := S.mark + 1 } dp rp lent n) 66 :: (SV.rows L { S with iv := iv', mv := mv', ki := (S.ki ++ [(Value.slice vo vn vc, vn, -1000 - ((S.mark : Int) + 1))]).drop d, mark := S.mark + 1 } ++ ((S.kb.map (datE L) ++ ((S.ki ++ [(Value.slice vo vn vc, vn, -1000 - ((S.mark : Int) + 1))]).map (kiE L) ++ (S.lb.map (datE L) ++ (S.ln.map (intE L) ++ S.lw.map (intE L))))) ++ R)) := by
      rw [hF]
      simp [fl, prt, SV.rows, SV.data, SV.cs, List.map_drop, kiE]
    rw [e] at h4
    exact h4.sub (List.Sublist.cons_cons _ (List.Sublist.append (List.Sublist.refl _) (List.Sublist.append (List.Sublist.append (List.Sublist.refl _) (List.Sublist.append (by show List.Sublist (((S.ki ++ [(Value.slice vo vn vc, vn, -1000 - ((S.mark : Int) + 1))]).drop d).map (kiE L)) _; rw [List.map_drop]; exact List.drop_sublist ..) (List.Sublist.refl _))) (List.Sublist.refl _))))
  · exact Held.below2 h2 hL hc (fun k hk => by
      rcases hk with e | e | e | e
      · exact ⟨_, List.mem_cons_self .., e⟩
      · exact ⟨_, List.mem_cons_of_mem _ (List.mem_cons_self ..), e⟩
      · exact ⟨_, List.mem_cons_of_mem _ (List.mem_cons_of_mem _ (List.mem_cons_self ..)), e⟩
      · exact ⟨_, List.mem_cons_of_mem _ (List.mem_cons_of_mem _ (List.mem_cons_of_mem _ (List.mem_cons_self ..))), e⟩)
end Go.Proofs.Ytlajcaofpmjdlaa
