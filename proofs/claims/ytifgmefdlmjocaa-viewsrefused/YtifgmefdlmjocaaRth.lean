import Derived.Test.YtifgmefdlmjocaaLg
import Derived.Deep.CutBlock
import Derived.Deep.CutRange
namespace Go.Proofs.Ytifgmefdlmjocaa
open Go.RowKit Go.PlainAid
set_option linter.unusedVariables false
set_option linter.unusedSimpArgs false
section
variable {L tb vr vc n : Nat} {hb mb : Nat → Nat} {LV : Nat → List Ent} {hv : Nat → Value} {Hs : Nat → List Ent} {sv : Value} {wr w' : World}
/-- Replica 1 takes a digest of replica 0. -/
theorem takeG (hT : TG L tb vr vc n hb mb LV hv Hs sv wr) (hn : 1 < n) (hLA : (LV 1).length ≤ 4) {B : Nat} {v : Value} {es : List Ent} (ho : wr.ownsRow B 46 7 v es.length (flatV es)) (hl : es.length ≤ 64) (hs : ∀ e ∈ es, e.sane) {code : Int} (hc : takeCode 1 n 0 (LV 1) es = code) {LN : List Ent} {c : Nat} (hx : takeNext 1 n 0 (LV 1) es = (LN, c)) :
    Calls Try.prog 19 #[.pointer (some ⟨hb 1, 0, none⟩), .int .i64 0, v] wr fun e w' => e = .returned (.tuple #[.int .i64 (c : Nat), .int .i64 code]) ∧ TG L tb vr vc n hb mb (updL LV 1 LN) hv Hs sv w' ∧ Chg (fun k => k = mb 1) wr w' := by
  obtain ⟨ao, cap, rfl, h1', h2, hf, hg⟩ := own_fromV ho
  have hV1 : Vw (hb 1) (mb 1) (1 : Int) n (LV 1) wr := hT.vs 1 hn
  refine (take_any (me := 1) (M := n) 0 ao es.length cap es wr hV1 (by omega) rfl (by unfold maxLen; omega) hf hs (fun b off e => ?_)).mono ?_
  · rw [e] at ho
    rcases ho.2 with ⟨h, _⟩ | ⟨g, c', cur, h, _, hgb, _⟩
    · cases h
    · cases h
      exact hV1.map.ne_b (show Blk wr _ cur 46 from hgb)
  · rintro e w' ⟨rfl, hV, hch⟩
    rw [hc, hx]
    rw [hx] at hV
    exact ⟨rfl, hT.tell hn hV hch, hch⟩
end
/-- What is known behind the refusal. -/
def KRel (L tb vr vc n : Nat) (hb mb : Nat → Nat) (LV : Nat → List Ent) (hv : Nat → Value) (Hs : Nat → List Ent) (W : World) (vl : Value) (ds : List Ent) (wr : World) : Prop := TG L tb vr vc n hb mb LV hv Hs (.slice none 0 0) wr ∧ Below W.heap.size W wr ∧ wr.ownsRow 0 46 7 vl ds.length (flatV ds)
theorem KRel.more {L tb vr vc n : Nat} {hb mb : Nat → Nat} {LV : Nat → List Ent} {hv : Nat → Value} {Hs : Nat → List Ent} {W : World} {vl : Value} {ds : List Ent} {wr w' : World} (h : KRel L tb vr vc n hb mb LV hv Hs W vl ds wr) (hb2 : Below wr.heap.size wr w') : KRel L tb vr vc n hb mb LV hv Hs W vl ds w' :=
  ⟨h.1.more hb2, h.2.1.trans (hb2.mono h.2.1.size), row_more hb2 h.2.2⟩
theorem known_rel {L tb vr vc n k : Nat} {hb mb : Nat → Nat} {LV : Nat → List Ent} {hv : Nat → Value} {Hs : Nat → List Ent} {W : World} {vl : Value} {ds : List Ent} {wr : World} (h : KRel L tb vr vc n hb mb LV hv Hs W vl ds wr) (hn : 2 ≤ n ∧ n ≤ 8) (hM : LIr 1 k (LV 1)) (nm : List UInt8) :
    Calls Try.prog 17 #[.pointer (some ⟨hb 1, 0, none⟩), .string ⟨nm.toArray⟩] wr fun e w' => ∃ g, e = .returned (.slice (some ⟨g, 0, none⟩) n n) ∧ w'.cell? ⟨g, 0, none⟩ = some (.int .i64 0) ∧ w'.cell? ⟨g, 1, none⟩ = some (.int .i64 0) ∧ Below wr.heap.size wr w' := by
  refine (known_any (N := n) nm wr (h.1.vs 1 (by omega)) (by omega)).mono ?_
  rintro e w' ⟨g, rfl, hg, hB, hbl⟩
  have hz := known_zero (n := n) hM nm (by omega)
  obtain ⟨rest, hr⟩ : ∃ rest, knownL nm (LV 1) n = (0, 0) :: rest := by
    cases hk : knownL nm (LV 1) n with
    | nil => rw [hk] at hz; cases hz
    | cons a t => rw [hk] at hz; simp at hz; exact ⟨t, by rw [hz]⟩
  rw [hr, flatR_cons] at hB
  exact ⟨g, rfl, (hB.cell 0).trans rfl, (hB.cell 1).trans rfl, hbl⟩
def MRow (wd wr : World) (v : Value) (k : Nat) (es : List Ent) : Prop := Below wd.heap.size wd wr ∧ wr.ownsRow wd.heap.size 46 7 v k (flatV es)
/-- The list that is sent: the digest with one more in it. -/
def mixed (ds : List Ent) (k : Nat) (b : Ent) (i : Nat) : List Ent := ds.take k ++ b :: (ds.drop k).take i
theorem mixed_succ {ds : List Ent} {k i : Nat} {b x : Ent} (h : ds[k + i]? = some x) : mixed ds k b i ++ [x] = mixed ds k b (i + 1) := by
  unfold mixed
  rw [List.take_add_one, List.getElem?_drop, h]
  simp
theorem mixed_len {ds : List Ent} {k i : Nat} {b : Ent} (hk : k ≤ ds.length) (hi : k + i ≤ ds.length) : (mixed ds k b i).length = k + i + 1 := by
  unfold mixed
  simp
  omega
theorem mixed_mem {ds : List Ent} {k i : Nat} {b e : Ent} (h : e ∈ mixed ds k b i) : e = b ∨ e ∈ ds := by
  unfold mixed at h
  rcases List.mem_append.1 h with h | h
  · exact Or.inr (List.mem_of_mem_take h)
  · rcases List.mem_cons.1 h with h | h
    · exact Or.inl h
    · exact Or.inr (List.mem_of_mem_drop (List.mem_of_mem_take h))
end Go.Proofs.Ytifgmefdlmjocaa
