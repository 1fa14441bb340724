import Derived.Test.YtjojhhkbebddmaaE2
import Derived.Deep.MidRow
import Derived.Deep.Cut
namespace Go.Proofs.Ytjojhhkbebddmaa
open Go.RowKit Go.PlainAid
set_option linter.unusedVariables false
set_option linter.unusedSimpArgs false
set_option maxRecDepth 100000 in
set_option maxHeartbeats 3200000 in
theorem frozen_any {L mb cb : Nat} {x : EV} {A : List Ac} (w : World) (h : MM L mb cb x A w) (hn : x.n ≤ 16) : Calls Try.prog 19 #[.pointer (some ⟨mb, 0, none⟩)] w fun e w' => e = .returned (.bool (!decide (tgtE x x.n = e0))) ∧ Below w.heap.size w w' := by
  obtain ⟨tr, tk, hT⟩ : ∃ tr tk, tgtE x x.n = ⟨tr, tk⟩ := ⟨_, _, rfl⟩
  have HL : Hid _ := target_any w h hn
  rw [hT] at HL ⊢
  clear h hT
  unfold epV at *
  have HN : Hid _ := fun W => isNone_any tr tk W
  generalize decide ((⟨tr, tk⟩ : Ep) = e0) = q at *
  go_enter Try.func19, Try.ntmps19
  go_wp2_with (first
    | (go_at_call 35; refine Calls.mono HL.out ?_; rintro e w1 ⟨rfl, hb1⟩)
    | (go_at_call 34; refine Calls.mono (HN.out _) ?_; rintro e w2 ⟨rfl, hb2⟩)
    | fail)
  go_ret
  exact ⟨rfl, bgo hb1 hb2 (Nat.le_refl _)⟩
def cnt (a : Int) : Bool := decide (0 ≤ a ∧ a ≤ 1099511627776)
def cnts (l r h : Int) : Bool := decide (1 ≤ l) && cnt l && cnt r && cnt h
theorem isCount_cnt (a : Int) (w : World) : Calls Try.prog 57 #[.int .i64 a] w fun e w' => e = .returned (.bool (cnt a)) ∧ w' = w := isCount_any a w
set_option maxRecDepth 100000 in
set_option maxHeartbeats 3200000 in
theorem areCounts_any (l r h : Int) (w : World) : Calls Try.prog 30 #[.int .i64 l, .int .i64 r, .int .i64 h] w fun e w' => e = .returned (.bool (cnts l r h)) ∧ w' = w := by
  unfold cnts
  by_cases h1 : 1 ≤ l
  · have e1 : decide (1 ≤ l) = true := by simpa using h1
    rw [e1]
    cases hl : cnt l <;> cases hr : cnt r <;> cases hh : cnt h
    all_goals
      go_enter Try.func30, Try.ntmps30
      go_wp2_with (first
        | (go_at_call 57; refine Calls.mono (isCount_cnt _ _) ?_; rintro e w1 ⟨rfl, rfl⟩)
        | fail)
      go_ret
      exact ⟨by simp [hl, hr, hh], rfl⟩
  · have e1 : decide (1 ≤ l) = false := by simpa using h1
    rw [e1]
    go_enter Try.func30, Try.ntmps30
    go_wp2
    go_ret
    exact ⟨rfl, rfl⟩
def setL (C : Array Value) (o : Nat) : List Value → Array Value
  | [] => C
  | v :: r => setL (C.setIfInBounds o v) (o + 1) r
theorem Blk.setL {g : Nat} {T : TypeId} : ∀ (vs : List Value) {w : World} {C : Array Value} (o : Nat), Blk w g C T → Blk (w.setCells g o vs) g (setL C o vs) T
  | [], w, C, o, h => h
  | v :: r, w, C, o, h => Blk.setL r (o + 1) (h.set o v)
theorem setCells_chg (g : Nat) : ∀ (vs : List Value) (w : World) (o : Nat), Chg (fun k => k = g) w (w.setCells g o vs)
  | [], w, o => Chg.refl _ _
  | v :: r, w, o => (setCell_chg w g o v).trans (setCells_chg g r _ (o + 1)) (fun _ _ e => e)
theorem Blk.there {w : World} {g : Nat} {C : Array Value} {T : TypeId} (h : Blk w g C T) (o n : Nat) (hn : o + n ≤ C.size) : w.there g o n := fun j hj => by
  rw [h.cell, h.frozen]
  exact ⟨by simp; omega, rfl⟩
def gcells : Array Value := #[.bool false, .bool false, .bool false, .bool false, .bool false, .bool false, .bool false, .bool false, .bool false, .bool false, .bool false, .bool false, .bool false, .bool false, .bool false, .bool false, .bool false, .int .i64 0, .int .i64 0, .int .i64 0, .int .i64 0, .int .i64 0, .int .i64 0, .int .i64 0, .int .i64 0, .int .i64 0, .int .i64 0, .int .i64 0, .int .i64 0, .int .i64 0, .int .i64 0, .int .i64 0, .int .i64 0]
def gcellsN (b : Bool) : Array Value := gcells.setIfInBounds 0 (.bool b)
def setLL (C : List Value) (o : Nat) : List Value → List Value
  | [] => C
  | v :: r => setLL (C.set o v) (o + 1) r
theorem setL_list : ∀ (vs C : List Value) (o : Nat), setL C.toArray o vs = (setLL C o vs).toArray
  | [], C, o => rfl
  | v :: r, C, o => by
    show setL (C.toArray.setIfInBounds o v) (o + 1) r = _
    rw [List.setIfInBounds_toArray, setL_list r]
    rfl
theorem setLL_eq : ∀ (vs C : List Value) (o : Nat), o + vs.length ≤ C.length → setLL C o vs = C.take o ++ vs ++ C.drop (o + vs.length)
  | [], C, o, h => by simp [setLL]
  | v :: r, C, o, h => by
    simp only [List.length_cons] at h
    show setLL (C.set o v) (o + 1) r = _
    rw [setLL_eq r (C.set o v) (o + 1) (by simp; omega)]
    have hl : o < C.length := by omega
    rw [List.take_succ_eq_append_getElem (by simpa using hl), List.take_set_of_le (Nat.le_refl o), List.getElem_set_self, List.drop_set_of_lt (by omega)]
    have e : o + 1 + r.length = o + (r.length + 1) := by omega
    simp only [List.append_assoc, List.singleton_append, List.length_cons, List.cons_append, e]
    rfl
set_option maxRecDepth 100000 in
theorem mbox_g (x : EV) (cb : Nat) (b : Bool) : setL (mbox x cb) 34 (gcellsN b).toList = mbox { x with need := b, rep := fun _ => false, hd := fun _ => 0 } cb := by
  have h1 : mbox x cb = (mbox x cb).toList.toArray := by simp
  rw [h1, setL_list, setLL_eq _ _ _ (show 34 + 33 ≤ 68 by decide)]
  rfl
theorem MM.setG {L mb cb : Nat} {x : EV} {A : List Ac} {w : World} (h : MM L mb cb x A w) (b : Bool) : MM L mb cb { x with need := b, rep := fun _ => false, hd := fun _ => 0 } A (w.setCells mb 34 (gcellsN b).toList) :=
  h.box (setCells_chg _ _ _ _) (by rw [← mbox_g x cb b]; exact Blk.setL _ _ h.b)
theorem end0n {f : Func} {tm : Array Value} {w : World} {R : Ending → World → Prop} (hf : f.results = #[]) (h : R (.returned (.tuple #[])) w) : bodyPost Try.prog f R .normal { tmps := tm, defers := [] } w :=
  ⟨rfl, _, results_none hf _ _ _, h⟩
theorem end0a {f : Func} {a : Act} {w : World} {R : Ending → World → Prop} (hf : f.results = #[]) (hd : a.defers = []) (h : R (.returned (.tuple #[])) w) : bodyPost Try.prog f R .normal a w :=
  ⟨hd, _, results_none hf _ _ _, h⟩
theorem isz84 : (Try.prog.info? 84).map (·.size) = some 33 := by kernel_rfl
theorem fin_set {L mb cb : Nat} {x : EV} {A : List Ac} {w W : World} (h : MM L mb cb x A W) (hc : Chg (fun k => k = mb) w W) (o : Obj) : MM L mb cb x A (W.alloc o).drew ∧ Chg (fun k => k = mb) w (W.alloc o).drew :=
  have hb : Below W.heap.size W (W.alloc o).drew := ((Below.refl _ _).alloc (Nat.le_refl _) o).drew
  ⟨h.more hb, hc.trans (Chg.ofBelow (fun _ => False) hb) (fun _ _ e => e.elim)⟩
theorem fin_drew {L mb cb : Nat} {x : EV} {A : List Ac} {w W : World} (h : MM L mb cb x A W) (hc : Chg (fun k => k = mb) w W) : MM L mb cb x A W.drew ∧ Chg (fun k => k = mb) w W.drew :=
  have hb : Below W.heap.size W W.drew := (Below.refl _ _).drew
  ⟨h.more hb, hc.trans (Chg.ofBelow (fun _ => False) hb) (fun _ _ e => e.elim)⟩
set_option maxRecDepth 100000 in
set_option maxHeartbeats 3200000 in
theorem learn_any {L mb cb : Nat} {x : EV} {A : List Ac} (a : Int) (r : Nat) (w : World) (h : MM L mb cb x A w) (hr : r < 16) : Calls Try.prog 62 #[.pointer (some ⟨mb, 0, none⟩), .agg #[.int .i64 a, .int .i64 (r : Int)]] w fun e w' => e = .returned (.tuple #[]) ∧ MM L mb cb { x with kn := up x.kn r (max (x.kn r) a) } A w' ∧ Chg (fun k => k = mb) w w' := by
  have ck := h.ckn hr
  have fk := h.b.frozen (2 + r)
  have hm := h.b.lt
  have HM : Hid _ := h
  clear h
  generalize hv : x.kn r = v at *
  have HV : Hid (x.kn r = v) := hv
  clear hv
  go_enter Try.func62, Try.ntmps62
  go_wp2
  go_region
  all_goals go_wp2
  all_goals
    refine end0n rfl ?_
    first
      | (have e : max v a = v := by omega
         rw [e]
         exact ⟨rfl, fin_set (HM.out.setKn hr v) (setCell_chg _ _ _ _) _⟩)
      | (have e : max v a = a := by omega
         rw [e]
         exact ⟨rfl, fin_set (HM.out.setKn hr a) (setCell_chg _ _ _ _) _⟩)
set_option maxRecDepth 100000 in
set_option maxHeartbeats 3200000 in
theorem endOwn_any {L mb cb : Nat} {x : EV} {A : List Ac} (w : World) (h : MM L mb cb x A w) (hr : x.me < 16) : Calls Try.prog 65 #[.pointer (some ⟨mb, 0, none⟩)] w fun e w' => e = .returned (.tuple #[]) ∧ MM L mb cb { x with fi := up x.fi x.me (x.kn x.me), need := false, rep := fun _ => false, hd := fun _ => 0 } A w' ∧ Chg (fun k => k = mb) w w' := by
  have c0 := h.c0
  have ck := h.ckn hr
  have cf := h.cfi hr
  have fk := h.b.frozen (18 + x.me)
  have hm := h.b.lt
  have HM : Hid _ := h
  clear h
  go_enter Try.func65, Try.ntmps65
  go_wp2
  go_region
  all_goals
    generalize hX : (w.setCell ⟨mb, 18 + x.me, none⟩ (.int .i64 (x.kn x.me))).drew = X
    have hF : MM L mb cb { x with fi := up x.fi x.me (x.kn x.me) } A X ∧ Chg (fun k => k = mb) w X := by rw [← hX]; exact fin_drew (HM.out.setFi hr _) (setCell_chg _ _ _ _)
    have HF : Hid _ := hF
    have hth : X.there mb 34 33 := hF.1.b.there 34 33 (show 34 + 33 ≤ 68 by decide)
    clear hX hF ck cf c0 fk
    go_upto_region 1 with fail
    refine wp_region_lit ?_
    refine st_yes (v := .pointer (some ⟨mb, 0, none⟩)) (wanted_none rfl) (by simp [go_sem, execOp, Act.eval]) ?_
    refine st_yes (v := .agg gcells) (wanted_none rfl) (by simp [go_sem, execOp, Act.eval, gcells]) ?_
    refine st_yes (v := .pointer (some ⟨mb, 0, none⟩)) (wanted_none rfl) (by simp [go_sem, execOp, Act.eval, Act.put]) ?_
    refine st_yes (v := .pointer (some ⟨mb, 34, none⟩)) (wanted_none rfl) (by simp [go_sem, execOp, Act.eval, Act.put]) ?_
    refine wpList_store_mid rfl 84 (.tmp 22) (.tmp 20) rfl mb 34 gcells (by simp [Act.eval, Act.put]) (by simp [Act.eval, Act.put]) hth isz84 (by first | decide | kernel_rfl) ?_
    refine wpList_nil (end0a rfl rfl ⟨rfl, HF.out.1.setG false, HF.out.2.trans (setCells_chg mb (gcellsN false).toList X 34) (fun _ _ e => e)⟩)
end Go.Proofs.Ytjojhhkbebddmaa
