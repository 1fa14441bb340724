import Derived.Test.YtcjgicfmfjomgaaEm
namespace Go.Proofs.Ytcjgicfmfjomgaa
open Go.RowKit Go.PlainAid Go.MapKept
set_option linter.unusedVariables false
set_option linter.unusedSimpArgs false
theorem LM.box {L lb cb mb : Nat} {uv : Value} {x x' : LV} {w w' : World} (h : LM L lb cb mb uv x w) (hc : Chg (fun k => k = lb) w w') (hb : Blk w' lb (lbox x' cb mb uv) 77) (e1 : x'.box = x.box) (e2 : x'.under = x.under) (e3 : x'.early = x.early) (e4 : x'.win = x.win) : LM L lb cb mb uv x' w' ∧ LStp lb cb mb uv uv x x' w w' := by
  have hne := h.ne_lb
  have ea : x'.all = x.all := by unfold LV.all; rw [e1, e2, e3]
  obtain ⟨s, r, hcc⟩ := h.c
  refine ⟨⟨hb, ⟨s, r, ?_⟩, ?_, ?_, fun d hd => ?_, by rw [ea]; exact h.dj, h.lo⟩, hc.mono (fun j _ e => .inl e), fun k hk => ?_⟩
  · rw [e1, e4]; exact (hc.block cb h.clt hne.1).trans hcc
  · rw [e2]; exact ownsRow_same h.u (fun g e => hc.block g (ownsRow_lt h.u e).2 (hne.2.2.1 g e))
  · rw [e3]; exact h.m.same (hc.block mb h.m.lt hne.2.1)
  · rw [ea] at hd
    exact ownsRow_same (h.dt d hd) (fun g e => hc.block g (ownsRow_lt (h.dt d hd) e).2 (hne.2.2.2 d hd g e))
  · rcases hk with q | q | q | q | ⟨d, hd, q⟩
    · exact .inl (.inl q)
    · exact .inl (.inr (.inl q))
    · exact .inl (.inr (.inr (.inl q)))
    · exact .inl (.inr (.inr (.inr (.inl q))))
    · rw [ea] at hd
      exact .inl (.inr (.inr (.inr (.inr ⟨d, hd, q⟩))))
theorem LStp.trans {lb cb mb : Nat} {uv uv1 uv2 : Value} {x x1 x2 : LV} {w w1 w2 : World} (h : LStp lb cb mb uv uv1 x x1 w w1) (k : LStp lb cb mb uv1 uv2 x1 x2 w1 w2) : LStp lb cb mb uv uv2 x x2 w w2 :=
  ⟨h.1.trans k.1 (fun j hj e => by
    rcases h.2 j e with q | q
    · exact q
    · omega), fun j hj => by
    have hs := h.1.size
    rcases k.2 j hj with q | q
    · exact h.2 j q
    · exact Or.inr (by omega)⟩
theorem oneGs (l : List Sgm) (h : ∀ g ∈ l, g.d.v.oneCell' = true) : ∀ u ∈ flatG l, u.oneCell' = true := by
  intro u hu
  obtain ⟨g, hg, hu⟩ := List.mem_flatMap.1 hu
  exact oneG g (h g hg) u hu
/-- A list of segments behind another one. -/
theorem SL.appAll {M M2 : Nat} {v v2 : Value} {l l2 : List Sgm} {w : World} (h : SL M v l w) (h2 : SL M2 v2 l2 w) (hM : M ≤ M2) (hMw : M ≤ w.heap.size) (hlow : ∀ k, slown v l k → k < M2) (hl : l.length + l2.length ≤ 100000) :
    ∃ v' w', (∀ ty, (Builtin.append_ #[33, 33] ty #[v, v2]).run Try.prog w = .ok v' w') ∧ SL M v' (l ++ l2) w' ∧ Grew w w' v v' := by
  obtain ⟨ao, cap, hv2, _⟩ := own_slice h2.r
  have hone : ∀ g ∈ l2, g.d.v.oneCell' = true := fun g hg => by
    obtain ⟨o, c, e, _⟩ := own_slice (h2.d g hg)
    rw [e]; rfl
  obtain ⟨v5, w5, hr5, ho5, hg5⟩ := app_rows 33 45 (.agg #[.int .i64 0, .int .i64 0, .int .i64 0, .int .i64 0, .slice none 0 0]) 5 56 Try.underlying33 info45 rfl (by decide) (by decide) h.r (ao := ao) (m := l2.length) (cap := cap) (ys := flatG l2) (flatG_len l2) (fun e => by
    subst e
    rcases h2.r.2 with ⟨h1, h3⟩ | ⟨g2, c, cur, h1, _⟩
    · rw [hv2] at h1
      simp only [Value.slice.injEq] at h1
      exact ⟨h3, h1.2.2⟩
    · rw [hv2] at h1; cases h1) (fun ad had j u hu => by
    subst had
    rcases h2.r.2 with ⟨h1, h3⟩ | ⟨g2, c, cur, h1, _⟩
    · rw [hv2] at h1; cases h1
    · rw [hv2] at h1
      simp only [Value.slice.injEq, Option.some.injEq] at h1
      obtain ⟨rfl, _, rfl⟩ := h1
      have hr := h2.r
      rw [hv2] at hr
      exact hr.cells (g := g2) rfl j u hu) (oneGs l2 hone) (by omega) hMw
  have hty : ∀ {u : Value} {n Z : Nat} {xs : List Value}, w.ownsRow Z 5 1 u n xs → w5.ownsRow Z 5 1 u n xs := fun hu => ownsRow_same hu (fun k e => hg5.chg.block k (ownsRow_lt hu e).2 (fun e2 => by
    obtain ⟨c1, q1⟩ := ownsRow_type hu e
    obtain ⟨c2, q2⟩ := ownsRow_type h.r e2
    exact Blk.ne_t q1 q2 (by decide) rfl))
  refine ⟨v5, w5, fun ty => by rw [hv2]; exact hr5 ty, ⟨?_, fun e he => ?_, ?_⟩, hg5⟩
  · rw [List.length_append, flatG_app]; exact ho5
  · rcases List.mem_append.1 he with q | q
    · exact hty (h.d e q)
    · exact ownsRow_mono (hty (h2.d e q)) hM
  · refine List.pairwise_append.2 ⟨h.p, h2.p, fun e he f hf k e1 e2 => ?_⟩
    have h3 := hlow k (.inr ⟨e, he, e1⟩)
    have h4 := (ownsRow_lt (h2.d f hf) e2).1
    omega
/-- What Out tells, and what it leaves. -/
def outTells (x : LV) : List (Int × Int × Int × Int × List UInt8) := (if x.owed = true then [(x.me, x.peer, 0, x.next - 1, [])] else []) ++ (if x.due = true then tell x.me x.peer (x.next - 1) (x.acked + 1) (x.under.map Dv.s) else []) ++ tell x.me x.peer (x.next - 1) (x.acked + (x.under.length : Int) + 1) (x.box.map Dv.s)
def LV.calm (x : LV) : LV := { x with age := if x.under.length = 0 then 0 else x.age, owed := false, due := false }
end Go.Proofs.Ytcjgicfmfjomgaa
