import Derived.Test.YtcnokgphioigoaaBase
import Derived.Laws.OwnMore
import Derived.Lib.SlBytesConst
namespace Go.Proofs.Ytcnokgphioigoaa
open Go.RowKit Go.PlainAid
set_option linter.unusedVariables false
set_option linter.unusedSimpArgs false
def B (u : UInt8) : Value := .int .u8 (u.toNat : Int)
theorem wpList_runs {ops : Array Oper} {rest : List Oper} {o : Oper} {a : Act} {Q : Exit → Act → World → Prop} {w w' : World} (hgd : o.guard = none) (s x : Operand) (t : TypeId) (ho : o.op = .call { callee := .builtin .append, args := #[s, x], argTypes := #[t, t] }) {v y v' : Value} (hs : a.eval s = v) (hx : a.eval x = y)
    (hr : ∀ ty, (Builtin.append_ #[t, t] ty #[v, y]).run Try.prog w = .ok v' w') (h : wpList Try.prog ops Q rest (a.put o.dst v') w') : wpList Try.prog ops Q (o :: rest) a w := by
  refine wpList_plain hgd fun K hK => ?_
  unfold Oper.wp execOp
  simp only [ho, resolve, invoke, builtin, Sem.run_bind, Sem.run_pure, Result.andThen_ok, List.map_toArray, List.map_cons, List.map_nil, hs, hx, hr]
  exact hK _ _ h
/-- Bytes that a slice holds, wherever it begins. -/
def By (w : World) (v : Value) (s : List UInt8) : Prop := ∃ ao k c, v = .slice ao k c ∧ s.length = k ∧ (ao = none → k = 0 ∧ c = 0) ∧ ∀ ad, ao = some ad → ∀ j u, (s.map B)[j]? = some u → w.cell? (ad.add j) = some u
theorem By.keep {w w' : World} {v : Value} {s : List UInt8} (h : By w v s) (hb : Below w.heap.size w w') : By w' v s := by
  obtain ⟨ao, k, c, h1, h2, h3, h4⟩ := h
  refine ⟨ao, k, c, h1, h2, h3, fun ad e j u hu => ?_⟩
  have := h4 ad e j u hu
  exact (hb.cell (World.block_lt_of_cell? w _ this)).trans this
theorem own_by {w : World} {L : Nat} {v : Value} {s : List UInt8} (h : w.ownsRow L 5 1 v s.length (s.map B)) : By w v s := by
  rcases h.2 with ⟨h1, h2⟩ | ⟨g, cap, cur, h1, h3⟩
  · exact ⟨none, 0, 0, h1, h2, (fun _ => ⟨rfl, rfl⟩), (fun ad e => by cases e)⟩
  · exact ⟨some ⟨g, 0, none⟩, s.length, cap, h1, rfl, (fun e => by cases e), fun ad e j u hu => by
      cases e
      subst h1
      exact h.cells (g := g) rfl j u hu⟩
theorem oneB (s : List UInt8) : ∀ u ∈ s.map B, u.oneCell' = true := by
  intro u hu
  obtain ⟨b, _, rfl⟩ := List.mem_map.1 hu
  rfl
theorem conv_run {w : World} {v : Value} {s : List UInt8} (h : By w v s) : (convert 38 9 v).run Try.prog w = .ok (.string ⟨s.toArray⟩) w := by
  obtain ⟨ao, k, c, rfl, hk, h0, hc⟩ := h
  subst hk
  cases ao with
  | none =>
    have h1 : s = [] := List.length_eq_zero_iff.mp (h0 rfl).1
    subst h1
    rw [run_convert_bytes_string w 38 9 5 none _ c Try.underlying38 Try.underlying5 Try.underlying9]
    simp [Conv.bytesToString]
    rfl
  | some ad =>
    refine run_convert_bytes_back w 38 9 5 ad c s Try.underlying38 Try.underlying5 Try.underlying9 (fun j hj => ?_)
    have := hc ad rfl j (B s[j]) (by rw [List.getElem?_map, List.getElem?_eq_getElem hj]; rfl)
    exact this
theorem info5' : (Try.prog.info? 5).map (fun i => (i.zero, i.size, i.bytes)) = some (some (.int .u8 0), 1, 1) := by kernel_rfl
/-- An append, whatever the elements and wherever they come from. -/
theorem app_rows (t e : TypeId) (z : Value) (size bytes : Nat) (ht : Try.prog.underlying t = some (.slice e)) (hinfo : (Try.prog.info? e).map (fun i => (i.zero, i.size, i.bytes)) = some (some z, size, bytes)) (hzz : z.cells.size = size) (hs0 : 1 ≤ size) (hb0 : 0 < bytes)
    {w : World} {base k : Nat} {v : Value} {xs : List Value} (hown : w.ownsRow base e size v k xs) {ao : Option Addr} {m cap : Nat} {ys : List Value} (hys : ys.length = m * size) (hnil : ao = none → m = 0 ∧ cap = 0) (hnews : ∀ ad, ao = some ad → ∀ j u, ys[j]? = some u → w.cell? (ad.add j) = some u) (hone : ∀ u ∈ ys, u.oneCell' = true) (hby2 : (k + m) * bytes ≤ 140737488355328) (hbase : base ≤ w.heap.size) :
    ∃ v' w', (∀ ty, (Builtin.append_ #[t, t] ty #[v, .slice ao m cap]).run Try.prog w = .ok v' w') ∧ w'.ownsRow base e size v' (k + m) (xs ++ ys) ∧ Grew w w' v v' := by
  cases ao with
  | none =>
    obtain ⟨rfl, rfl⟩ := hnil rfl
    obtain ⟨i0, hi, _⟩ := info_parts hinfo
    obtain rfl := List.eq_nil_of_length_eq_zero (by simpa using hys)
    exact ⟨v, w, fun ty => run_append_owned_none w base t ty e i0 size ht hi v k _ hown, by simpa using hown, Grew.refl _ _⟩
  | some ad =>
    obtain ⟨v', w', a, b, c, _⟩ := app_any t e z size bytes ht hinfo hzz hs0 hb0 hown ad m cap ys hys (hnews ad rfl) hone hby2 hbase t
    exact ⟨v', w', fun ty => a, b, c⟩
/-- Bytes behind a row of one's own. -/
theorem app_bytesB {w : World} {base k : Nat} {v : Value} {xs : List Value} (hown : w.ownsRow base 5 1 v k xs) (hbase : base ≤ w.heap.size) (ps : List UInt8) (hl : k + ps.length ≤ 140737488355328) :
    ∃ v' w', (∀ ty, (Builtin.append_ #[38, 38] ty #[v, .slice (some ⟨w.heap.size, 0, none⟩) ps.length ps.length]).run Try.prog (w.alloc (.cells (ps.map B).toArray 5)) = .ok v' w') ∧ w'.ownsRow base 5 1 v' (k + ps.length) (xs ++ ps.map B) ∧ Grew w w' v v' := by
  obtain ⟨v', w', h1, h2, h3⟩ := app_rows (w := w.alloc (.cells (ps.map B).toArray 5)) 38 5 (.int .u8 0) 1 1 Try.underlying38 info5' rfl (by decide) (by decide) (hown.alloc _) (ao := some ⟨w.heap.size, 0, none⟩) (m := ps.length) (cap := ps.length) (ys := ps.map B) (by simp) (fun h => by cases h) (fun ad e j u hu => by
    cases e
    have hB : Blk (w.alloc (.cells (ps.map B).toArray 5)) w.heap.size (ps.map B).toArray 5 := heap_alloc_new w _
    rw [addr_add, Nat.zero_add, hB.cell j]
    simpa using hu) (oneB ps) (by omega) (by rw [World.size_alloc]; omega)
  exact ⟨v', w', h1, h2, h3.ofAlloc⟩
theorem own_setB {w : World} {L n g cap k : Nat} {zs : List UInt8} (h : w.ownsRow L 5 1 (.slice (some ⟨g, 0, none⟩) n cap) n (zs.map B)) (z : UInt8) :
    (w.setCell ⟨g, k, none⟩ (B z)).ownsRow L 5 1 (.slice (some ⟨g, 0, none⟩) n cap) n ((zs.set k z).map B) ∧ w.frozen? ⟨g, k, none⟩ = false := by
  rcases h.2 with ⟨h1, _⟩ | ⟨g2, c, cur, h1, h2, h3, h4, h5, h6, h7⟩
  · cases h1
  · cases h1
    have hB : Blk w g cur 5 := h3
    refine ⟨⟨by simpa using h.1, Or.inr ⟨g, cap, cur.setIfInBounds k (B z), rfl, h2, hB.set k _, h4, h5, by simpa using h6, ?_⟩⟩, hB.frozen k⟩
    rw [Array.toList_setIfInBounds, List.take_set, h7]
    simp only [List.map_set]
theorem setCell_chg (W : World) (b j : Nat) (v : Value) : Chg (fun k => k = b) W (W.setCell ⟨b, j, none⟩ v) := ⟨rfl, rfl, rfl, by simp [World.setCell], fun k hk hn => Below.heap_setCell _ _ _ _ hn⟩
set_option maxHeartbeats 400000 in
theorem same_any {v u : Value} {xs ys : List UInt8} (w : World) (hx : By w v xs) (hy : By w u ys) :
    Calls Try.prog 27 #[v, u] w fun e w' => e = .returned (.bool (xs == ys)) ∧ w' = w := by
  have k1 := conv_run hx
  have k2 := conv_run hy
  clear hx hy
  go_enter Try.func27, Try.ntmps27
  go_wp2
  go_ret
  exact ⟨rfl, rfl⟩
theorem By.chg {S : Nat → Prop} {w w' : World} {v : Value} {s : List UInt8} (h : By w v s) (hc : Chg S w w') (hS : ∀ ad k c, v = .slice (some ad) k c → ¬ S ad.block) : By w' v s := by
  obtain ⟨ao, k, c, h1, h2, h3, h4⟩ := h
  refine ⟨ao, k, c, h1, h2, h3, fun ad e j u hu => ?_⟩
  subst e
  have := h4 ad rfl j u hu
  have hlt := World.block_lt_of_cell? w _ this
  have hb : (ad.add j).block = ad.block := by unfold Addr.add; split <;> rfl
  rw [← this]
  refine World.cell?_of_block (w := w) ?_
  rw [hb] at hlt ⊢
  exact hc.block _ hlt (hS ad k c h1)
set_option maxRecDepth 100000 in
theorem num_any (x : Int) (w : World) : Calls Try.prog 12 #[.int .i64 x] w fun e w' => e = .returned (.int .i64 x) ∧ w' = w := by
  go_enter Try.func12, Try.ntmps12
  go_wp2_with fail
  go_ret
  exact ⟨rfl, rfl⟩
def slotN (x : Int) (n : Nat) : Nat := (x % (n : Int)).toNat
def fullL (u : UInt8) : List UInt8 := List.replicate 512 u
theorem fullL_len (u : UInt8) : (fullL u).length = 512 := List.length_replicate
theorem fullL_get (u : UInt8) (j : Nat) (h : j < 512) : (fullL u).getD j 0 = u := by
  unfold fullL
  rw [List.getD_eq_getElem?_getD, List.getElem?_replicate, if_pos h]
  rfl
end Go.Proofs.Ytcnokgphioigoaa
