import Derived.Test.YtlajcaofpmjdlaaSf5
namespace Go.Proofs.Ytlajcaofpmjdlaa
open Go.RowKit Go.PlainAid
set_option linter.unusedVariables false
set_option linter.unusedSimpArgs false
/-- A shelf's values. -/
structure SV where
  bv : Value
  hv : Value
  iv : Value
  mv : Value
  lv : Value
  wv : Value
  nv : Value
  ov : Value
  kb : List (Value × List UInt8)
  ki : List (Value × Nat × Int)
  mark : Nat
  lb : List (Value × List UInt8)
  ln : List (Value × List Int)
  lw : List (Value × List Int)
  size : Nat
def SV.cs (S : SV) (dp rp lent : Value) (n : Nat) : Array Value := #[dp, rp, S.bv, S.hv, S.iv, S.mv, .int .i64 (S.mark : Int), S.lv, S.wv, S.nv, S.ov, .int .i64 (S.size : Int), lent, .int .i64 (n : Int)]
def kiE (L : Nat) (d : Value × Nat × Int) : Ent L := intE L (d.1, List.replicate d.2.1 d.2.2)
def SV.rows (L : Nat) (S : SV) : List (Ent L) := [tailE L 30 S.bv S.kb.length (S.kb.map Prod.fst), tailE L 9 S.hv S.kb.length (S.kb.map fun d => strV d.2), tailE L 44 S.iv S.ki.length (S.ki.map Prod.fst), tailE L 3 S.mv S.ki.length (S.ki.map fun d => I d.2.2), tailE L 30 S.lv S.lb.length (S.lb.map Prod.fst), tailE L 9 S.wv S.lb.length (S.lb.map fun d => strV d.2), tailE L 44 S.nv S.ln.length (S.ln.map Prod.fst), tailE L 44 S.ov S.lw.length (S.lw.map Prod.fst)]
def SV.data (L : Nat) (S : SV) : List (Ent L) := S.kb.map (datE L) ++ (S.ki.map (kiE L) ++ (S.lb.map (datE L) ++ (S.ln.map (intE L) ++ S.lw.map (intE L))))
structure SV.Ok (S : SV) (n : Nat) : Prop where
  kb : S.kb.length ≤ 4
  ki : S.ki.length ≤ 4
  kn : ∀ d ∈ S.ki, d.2.1 ≤ 100000
  lb : S.lb.length ≤ 100
  ln : S.ln.length ≤ 100
  lw : S.ln.map Prod.snd = S.lw.map Prod.snd
  sz : S.size ≤ 4194304
  mkb : S.mark ≤ n
  lbn : ∀ d ∈ S.lb, d.2.length ≤ 4194304
  lnn : ∀ d ∈ S.ln, d.2.length ≤ 100000
/-- All that a pair's shelf holds, and what else is held. -/
def PH (L pb : Nat) (S : SV) (dp rp lent : Value) (n : Nat) (R : List (Ent L)) (w : World) : Prop := Held (boxE L pb (S.cs dp rp lent n) 66 :: (S.rows L ++ (S.data L ++ R))) w
theorem Held.below2 {L : Nat} {es : List (Ent L)} {w w' : World} {A : Nat → Prop} (h : Held es w) (hL : L ≤ w.heap.size) (hc : Chg A w w') (hA : ∀ k, A k → has es k) : Below L w w' := hc.below hL (fun k hk => (h.typ (hA k hk)).1)
theorem has_mem {L : Nat} {es : List (Ent L)} {e : Ent L} {k : Nat} (he : e ∈ es) (hk : e.bl k) : has es k := ⟨e, he, hk⟩
/-- A row that only its pair of places knows is in front. -/
theorem Held.fst {L : Nat} {pre post : List (Ent L)} {e : Ent L} {w : World} (h : Held (pre ++ e :: post) w) : Held (e :: (pre ++ post)) w := h.perm List.perm_middle
theorem Held.snd {L : Nat} {pre post : List (Ent L)} {e : Ent L} {w : World} (h : Held (e :: (pre ++ post)) w) : Held (pre ++ e :: post) w := h.perm List.perm_middle.symm
theorem PH.low {L pb : Nat} {S : SV} {dp rp lent : Value} {n : Nat} {R : List (Ent L)} {w : World} (h : PH L pb S dp rp lent n R w) : L ≤ w.heap.size := Nat.le_trans (h.all _ (List.mem_cons_self ..)).2 (Nat.le_of_lt (Held.boxB h).lt)
theorem PH.sto {L pb : Nat} {S : SV} {dp rp lent : Value} {n : Nat} {R : List (Ent L)} {w : World} (h : PH L pb S dp rp lent n R w) : StO L pb (S.cs dp rp lent n) S.bv S.hv S.iv S.mv S.kb S.ki w := by
  refine ⟨Held.boxB h, rfl, rfl, rfl, rfl, ?_, ?_, ?_, ?_, ?_, ?_⟩
  · exact h.all (tailE L 30 S.bv S.kb.length (S.kb.map Prod.fst)) (by simp [SV.rows])
  · exact h.all (tailE L 9 S.hv S.kb.length (S.kb.map fun d => strV d.2)) (by simp [SV.rows])
  · exact h.all (tailE L 44 S.iv S.ki.length (S.ki.map Prod.fst)) (by simp [SV.rows])
  · exact h.all (tailE L 3 S.mv S.ki.length (S.ki.map fun d => I d.2.2)) (by simp [SV.rows])
  · intro d hd
    exact h.all (datE L d) (List.mem_cons_of_mem _ (List.mem_append_right _ (List.mem_append_left _ (List.mem_append_left _ (List.mem_map_of_mem hd)))))
  · intro d hd
    have := h.all (kiE L d) (List.mem_cons_of_mem _ (List.mem_append_right _ (List.mem_append_left _ (List.mem_append_right _ (List.mem_append_left _ (List.mem_map_of_mem hd))))))
    have h2 : w.ownsRow L 3 1 d.1 (List.replicate d.2.1 d.2.2).length ((List.replicate d.2.1 d.2.2).map I) := this
    rw [List.length_replicate] at h2
    exact h2
/-- Parts by numbers, in an order. -/
def fl {L : Nat} (f : Nat → List (Ent L)) : List Nat → List (Ent L)
  | [] => []
  | [i] => f i
  | i :: j :: t => f i ++ fl f (j :: t)
theorem fl_perm {L : Nat} (f : Nat → List (Ent L)) : ∀ a : List Nat, (fl f a).Perm (a.flatMap f)
  | [] => by simp [fl]
  | [i] => by simp [fl]
  | i :: j :: t => by
    rw [fl, List.flatMap_cons]
    exact List.Perm.append_left _ (fl_perm f (j :: t))
theorem Held.re {L : Nat} {w : World} (f : Nat → List (Ent L)) (a b : List Nat) (hp : a.Perm b) (h : Held (fl f a) w) : Held (fl f b) w :=
  h.perm ((fl_perm f a).trans ((hp.flatMap_right f).trans (fl_perm f b).symm))
/-- The parts of a pair's shelf, and one more. -/
def prt {L : Nat} (pb : Nat) (S : SV) (dp rp lent : Value) (n : Nat) (X R : List (Ent L)) : Nat → List (Ent L)
  | 0 => [boxE L pb (S.cs dp rp lent n) 66]
  | 1 => [tailE L 30 S.bv S.kb.length (S.kb.map Prod.fst)]
  | 2 => [tailE L 9 S.hv S.kb.length (S.kb.map fun d => strV d.2)]
  | 3 => [tailE L 44 S.iv S.ki.length (S.ki.map Prod.fst)]
  | 4 => [tailE L 3 S.mv S.ki.length (S.ki.map fun d => I d.2.2)]
  | 5 => [tailE L 30 S.lv S.lb.length (S.lb.map Prod.fst)]
  | 6 => [tailE L 9 S.wv S.lb.length (S.lb.map fun d => strV d.2)]
  | 7 => [tailE L 44 S.nv S.ln.length (S.ln.map Prod.fst)]
  | 8 => [tailE L 44 S.ov S.lw.length (S.lw.map Prod.fst)]
  | 9 => S.kb.map (datE L)
  | 10 => S.ki.map (kiE L)
  | 11 => S.lb.map (datE L)
  | 12 => X
  | 13 => S.ln.map (intE L)
  | 14 => S.lw.map (intE L)
  | _ => R
theorem PH.parts {L pb : Nat} {S : SV} {dp rp lent : Value} {n : Nat} {X R : List (Ent L)} {w : World} : PH L pb S dp rp lent n (X ++ R) w ↔ Held (fl (prt pb S dp rp lent n X R) [0, 1, 2, 3, 4, 5, 6, 7, 8, 9, 10, 11, 13, 14, 12, 15]) w := by
  have e : fl (prt pb S dp rp lent n X R) [0, 1, 2, 3, 4, 5, 6, 7, 8, 9, 10, 11, 13, 14, 12, 15] = boxE L pb (S.cs dp rp lent n) 66 :: (S.rows L ++ (S.data L ++ (X ++ R))) := by
    simp [fl, prt, SV.rows, SV.data]
  rw [e]
  rfl
def grp {L : Nat} (l : List (List (Ent L))) (i : Nat) : List (Ent L) := l.getD i []
theorem SV.Ok.more {S : SV} {n m : Nat} (h : S.Ok n) (hm : n ≤ m) : S.Ok m := ⟨h.kb, h.ki, h.kn, h.lb, h.ln, h.lw, h.sz, Nat.le_trans h.mkb hm, h.lbn, h.lnn⟩
/-- An answer that is left as it is. -/
theorem PH.leave {L pb : Nat} {S : SV} {dp rp lent : Value} {n vn vc : Nat} {vo : Option Addr} {bs : List UInt8} {R : List (Ent L)} {w : World} (h : PH L pb S dp rp lent n ([datE L (Value.slice vo vn vc, bs)] ++ R) w) (hk : S.Ok n) (hl : bs.length = vn) (hvn : vn ≤ 4194304 - S.size) (hb : S.lb.length < 100) :
    Calls Try.prog 56 #[.pointer (some ⟨pb, 2, none⟩), .slice vo vn vc] w fun e w' => ∃ S' : SV, e = .returned (.bool true) ∧ S'.Ok n ∧ PH L pb S' dp rp lent n R w' ∧ Below L w w' := by
  have hL := h.low
  have h1 := (PH.parts.1 h).re _ _ [0, 5, 6, 12, 1, 2, 3, 4, 7, 8, 9, 10, 11, 13, 14, 15] (by decide)
  have h2 : Held (boxE L pb (S.cs dp rp lent n) 66 :: tailE L 30 S.lv S.lb.length (S.lb.map Prod.fst) :: tailE L 9 S.wv S.lb.length (S.lb.map fun d => strV d.2) :: datE L (Value.slice vo vn vc, bs) :: fl (prt pb S dp rp lent n [datE L (Value.slice vo vn vc, bs)] R) [1, 2, 3, 4, 7, 8, 9, 10, 11, 13, 14, 15]) w := h1
  refine (leave_yes (size := S.size) w h2 rfl rfl rfl rfl hk.sz hl hvn hb).mono ?_
  rintro e w' ⟨lv', wv', rfl, h3, hc⟩
  obtain ⟨F, hF⟩ : ∃ F : Nat → List (Ent L), F = fun i => if i = 0 then [boxE L pb ((((S.cs dp rp lent n).setIfInBounds 11 (.int .i64 ((S.size + vn : Nat) : Int))).setIfInBounds 7 lv').setIfInBounds 8 wv') 66] else if i = 5 then [tailE L 30 lv' (S.lb.length + 1) (S.lb.map Prod.fst ++ [Value.slice vo vn vc])] else if i = 6 then [tailE L 9 wv' (S.lb.length + 1) ((S.lb.map fun d => strV d.2) ++ [strV bs])] else prt pb S dp rp lent n [datE L (Value.slice vo vn vc, bs)] R i := ⟨_, rfl⟩
  have e0 : fl F [0, 5, 6, 12, 1, 2, 3, 4, 7, 8, 9, 10, 11, 13, 14, 15] = boxE L pb ((((S.cs dp rp lent n).setIfInBounds 11 (.int .i64 ((S.size + vn : Nat) : Int))).setIfInBounds 7 lv').setIfInBounds 8 wv') 66 :: tailE L 30 lv' (S.lb.length + 1) (S.lb.map Prod.fst ++ [Value.slice vo vn vc]) :: tailE L 9 wv' (S.lb.length + 1) ((S.lb.map fun d => strV d.2) ++ [strV bs]) :: datE L (Value.slice vo vn vc, bs) :: fl (prt pb S dp rp lent n [datE L (Value.slice vo vn vc, bs)] R) [1, 2, 3, 4, 7, 8, 9, 10, 11, 13, 14, 15] := by rw [hF]; simp [fl, prt]
  rw [← e0] at h3
  have h4 := Held.re F [0, 5, 6, 12, 1, 2, 3, 4, 7, 8, 9, 10, 11, 13, 14, 15] [0, 1, 2, 3, 4, 5, 6, 7, 8, 9, 10, 11, 12, 13, 14, 15] (by decide) h3
  refine ⟨{ S with lv := lv', wv := wv', lb := S.lb ++ [(Value.slice vo vn vc, bs)], size := S.size + vn }, rfl, ⟨hk.kb, hk.ki, hk.kn, by simp; omega, hk.ln, hk.lw, by show S.size + vn ≤ _; have := hk.sz; omega, hk.mkb, (fun d hd => by rcases List.mem_append.1 hd with h | h; exact hk.lbn d h; rw [List.mem_singleton.1 h]; show bs.length ≤ _; omega), hk.lnn⟩, ?_, ?_⟩
  · have e : fl F [0, 1, 2, 3, 4, 5, 6, 7, 8, 9, 10, 11, 12, 13, 14, 15] = boxE L pb (SV.cs ({ S with lv := lv', wv := wv', lb := S.lb ++ [(Value.slice vo vn vc, bs)], size := S.size + vn }) dp rp lent n) 66 :: (SV.rows L ({ S with lv := lv', wv := wv', lb := S.lb ++ [(Value.slice vo vn vc, bs)], size := S.size + vn }) ++ (SV.data L ({ S with lv := lv', wv := wv', lb := S.lb ++ [(Value.slice vo vn vc, bs)], size := S.size + vn }) ++ R)) := by
      rw [hF]
      simp [fl, prt, SV.rows, SV.data, SV.cs, kiE]
    rw [e] at h4
    exact h4
  · exact Held.below2 h2 hL hc (fun k hk => by
      rcases hk with e | e | e
      · exact ⟨_, List.mem_cons_self .., e⟩
      · exact ⟨_, List.mem_cons_of_mem _ (List.mem_cons_self ..), e⟩
      · exact ⟨_, List.mem_cons_of_mem _ (List.mem_cons_of_mem _ (List.mem_cons_self ..)), e⟩)
/-- Numbers that are left as they are. -/
theorem PH.leaveInts {L pb : Nat} {S : SV} {dp rp lent : Value} {n vn vc : Nat} {vo : Option Addr} {zs : List Int} {R : List (Ent L)} {w : World} (h : PH L pb S dp rp lent n ([intE L (Value.slice vo vn vc, zs)] ++ R) w) (hk : S.Ok n) (hl : zs.length = vn) (hvn : vn ≤ 100000) (hb : S.ln.length < 100) :
    Calls Try.prog 59 #[.pointer (some ⟨pb, 2, none⟩), .slice vo vn vc] w fun e w' => ∃ S' : SV, e = .returned (.bool true) ∧ S'.Ok n ∧ PH L pb S' dp rp lent n R w' ∧ Below L w w' := by
  have hL := h.low
  have h1 := (PH.parts.1 h).re _ _ [0, 7, 8, 12, 1, 2, 3, 4, 5, 6, 9, 10, 11, 13, 14, 15] (by decide)
  have hlw : S.lw.length = S.ln.length := by have := congrArg List.length hk.lw; simpa using this.symm
  have h2 : Held (boxE L pb (S.cs dp rp lent n) 66 :: tailE L 44 S.nv S.ln.length (S.ln.map Prod.fst) :: tailE L 44 S.ov S.ln.length (S.lw.map Prod.fst) :: intE L (Value.slice vo vn vc, zs) :: fl (prt pb S dp rp lent n [intE L (Value.slice vo vn vc, zs)] R) [1, 2, 3, 4, 5, 6, 9, 10, 11, 13, 14, 15]) w := by rw [show tailE L 44 S.ov S.ln.length (S.lw.map Prod.fst) = tailE L 44 S.ov S.lw.length (S.lw.map Prod.fst) from by rw [hlw]]; exact h1
  refine (leaveInts_yes w h2 rfl rfl rfl hl hvn hb).mono ?_
  rintro e w' ⟨nv', ov', cv, rfl, h3, hc⟩
  obtain ⟨F, hF⟩ : ∃ F : Nat → List (Ent L), F = fun i => if i = 0 then [boxE L pb (((S.cs dp rp lent n).setIfInBounds 9 nv').setIfInBounds 10 ov') 66] else if i = 7 then [tailE L 44 nv' (S.ln.length + 1) (S.ln.map Prod.fst ++ [Value.slice vo vn vc])] else if i = 8 then [tailE L 44 ov' (S.ln.length + 1) (S.lw.map Prod.fst ++ [cv])] else if i = 16 then [intE L (cv, zs)] else prt pb S dp rp lent n [intE L (Value.slice vo vn vc, zs)] R i := ⟨_, rfl⟩
  have e0 : fl F [0, 7, 8, 12, 16, 1, 2, 3, 4, 5, 6, 9, 10, 11, 13, 14, 15] = boxE L pb (((S.cs dp rp lent n).setIfInBounds 9 nv').setIfInBounds 10 ov') 66 :: tailE L 44 nv' (S.ln.length + 1) (S.ln.map Prod.fst ++ [Value.slice vo vn vc]) :: tailE L 44 ov' (S.ln.length + 1) (S.lw.map Prod.fst ++ [cv]) :: intE L (Value.slice vo vn vc, zs) :: intE L (cv, zs) :: fl (prt pb S dp rp lent n [intE L (Value.slice vo vn vc, zs)] R) [1, 2, 3, 4, 5, 6, 9, 10, 11, 13, 14, 15] := by rw [hF]; simp [fl, prt]
  rw [← e0] at h3
  have h4 := Held.re F [0, 7, 8, 12, 16, 1, 2, 3, 4, 5, 6, 9, 10, 11, 13, 14, 15] [0, 1, 2, 3, 4, 5, 6, 7, 8, 9, 10, 11, 13, 12, 14, 16, 15] (by decide) h3
  refine ⟨{ S with nv := nv', ov := ov', ln := S.ln ++ [(Value.slice vo vn vc, zs)], lw := S.lw ++ [(cv, zs)] }, rfl, ⟨hk.kb, hk.ki, hk.kn, hk.lb, by simp; omega, by simp [hk.lw], hk.sz, hk.mkb, hk.lbn, (fun d hd => by rcases List.mem_append.1 hd with h | h; exact hk.lnn d h; rw [List.mem_singleton.1 h]; show zs.length ≤ _; omega)⟩, ?_, ?_⟩
  · have e : fl F [0, 1, 2, 3, 4, 5, 6, 7, 8, 9, 10, 11, 13, 12, 14, 16, 15] = boxE L pb (SV.cs ({ S with nv := nv', ov := ov', ln := S.ln ++ [(Value.slice vo vn vc, zs)], lw := S.lw ++ [(cv, zs)] }) dp rp lent n) 66 :: (SV.rows L ({ S with nv := nv', ov := ov', ln := S.ln ++ [(Value.slice vo vn vc, zs)], lw := S.lw ++ [(cv, zs)] }) ++ (SV.data L ({ S with nv := nv', ov := ov', ln := S.ln ++ [(Value.slice vo vn vc, zs)], lw := S.lw ++ [(cv, zs)] }) ++ R)) := by
      rw [hF]
      simp [fl, prt, SV.rows, SV.data, SV.cs, kiE, hlw]
    rw [e] at h4
    exact h4
  · exact Held.below2 h2 hL hc (fun k hk => by
      rcases hk with e | e | e
      · exact ⟨_, List.mem_cons_self .., e⟩
      · exact ⟨_, List.mem_cons_of_mem _ (List.mem_cons_self ..), e⟩
      · exact ⟨_, List.mem_cons_of_mem _ (List.mem_cons_of_mem _ (List.mem_cons_self ..)), e⟩)
end Go.Proofs.Ytlajcaofpmjdlaa
