import Derived.Test.YtjojhhkbebddmaaL8k0
import Derived.Test.YtjojhhkbebddmaaL8k1
import Derived.Test.YtjojhhkbebddmaaL8k2
import Derived.Test.YtjojhhkbebddmaaL8k3
import Derived.Test.YtjojhhkbebddmaaL8k4
import Derived.Test.YtjojhhkbebddmaaL8k5
import Derived.Test.YtjojhhkbebddmaaL8k6
namespace Go.Proofs.Ytjojhhkbebddmaa
open Go.RowKit Go.PlainAid
set_option linter.unusedVariables false
set_option linter.unusedSimpArgs false
theorem played_any {σ : Type} {L kb pb mb cb : Nat} {K : Keeper σ L kb} {hK : KFr K} {s : σ} {x : EV} {g : RG} {r : RV} {R : List (Ent L)} {own0 : Nat → Prop} {w0 : World} (c : Cl) (w : World) (h : AS own0 w0 (pES K hK s pb mb cb x g r R) w) (ha : Agr x r) (hx : x.Nm) (hsz : r.sz ≤ 999999980) (hcnt : K.cnt s ≤ 999999999900) : Calls Try.prog 27 #[.pointer (some ⟨pb, 0, none⟩), .agg c.cells, .pointer (some ⟨kb, 0, none⟩)] w fun e w' => e = .returned (.bool true) ∧ ∃ s' x' g' r', AS own0 w0 (pES K hK s' pb mb cb x' g' r' R) w' ∧ K.cnt s' ≤ K.cnt s + 36 ∧ Agr x' r' ∧ x'.Nm ∧ r'.sz ≤ r.sz + 4 := by
  obtain ⟨who, kind, lim, rts, hld, all, own, frm, ⟨a, b⟩, ⟨c, d⟩⟩ := c
  obtain ⟨er, ek, hE⟩ : ∃ er ek, liveE x x.me = ⟨er, ek⟩ := ⟨_, _, rfl⟩
  by_cases k1 : kind = 1
  · subst k1
    cases own
    · refine (pl_1_false who lim rts hld frm a b c d er ek all w h ha hx hsz hcnt hE).mono ?_
      rintro e w' ⟨rfl, s', g', h1, h2⟩
      exact ⟨rfl, s', _, g', _, h1, h2, ha.beg hx lim rts hld all, begX_nm hx lim rts hld all, by have := begR_sz x r lim rts hld all; omega⟩
    · refine (pl_1_true who lim rts hld frm a b c d er ek all w h ha hx hsz hcnt hE).mono ?_
      rintro e w' ⟨rfl, s', g', h1, h2⟩
      exact ⟨rfl, s', _, g', _, h1, h2, ha.beg hx lim rts hld all, begX_nm hx lim rts hld all, by have := begR_sz x r lim rts hld all; omega⟩
  by_cases k2 : kind = 2
  · subst k2
    cases own
    · refine (pl_2_false who lim rts hld frm a b c d er ek all w h ha hx hsz hcnt hE).mono ?_
      rintro e w' ⟨rfl, s', g', h1, h2⟩
      exact ⟨rfl, s', _, g', _, h1, h2, ha.en e0 ⟨a, b⟩ _, enX_nm hx e0 ⟨a, b⟩, enR_sz x r e0 ⟨a, b⟩⟩
    · refine (pl_2_true who lim rts hld frm a b c d er ek all w h ha hx hsz hcnt hE).mono ?_
      rintro e w' ⟨rfl, s', g', h1, h2⟩
      exact ⟨rfl, s', _, g', _, h1, h2, ha.en e0 ⟨er, ek⟩ _, enX_nm hx e0 ⟨er, ek⟩, enR_sz x r e0 ⟨er, ek⟩⟩
  by_cases k3 : kind = 3
  · subst k3
    cases own
    · refine (pl_3_false who lim rts hld frm a b c d er ek all w h ha hx hsz hcnt hE).mono ?_
      rintro e w' ⟨rfl, s', g', h1, h2⟩
      exact ⟨rfl, s', _, g', _, h1, h2, ha.en ⟨a, b⟩ ⟨c, d⟩ _, enX_nm hx ⟨a, b⟩ ⟨c, d⟩, enR_sz x r ⟨a, b⟩ ⟨c, d⟩⟩
    · refine (pl_3_true who lim rts hld frm a b c d er ek all w h ha hx hsz hcnt hE).mono ?_
      rintro e w' ⟨rfl, s', g', h1, h2⟩
      exact ⟨rfl, s', _, g', _, h1, h2, ha.en ⟨er, ek⟩ ⟨c, d⟩ _, enX_nm hx ⟨er, ek⟩ ⟨c, d⟩, enR_sz x r ⟨er, ek⟩ ⟨c, d⟩⟩
  by_cases k4 : kind = 4
  · subst k4
    cases own
    · refine (pl_4_false who lim rts hld frm a b c d er ek all w h ha hx hsz hcnt hE).mono ?_
      rintro e w' ⟨rfl, s', g', h1, h2⟩
      exact ⟨rfl, s', _, g', _, h1, h2, ha.rep frm ⟨a, b⟩ hld, hx.repX frm ⟨a, b⟩ hld, by have := repR_sz x r frm ⟨a, b⟩ hld; omega⟩
    · refine (pl_4_true who lim rts hld frm a b c d er ek all w h ha hx hsz hcnt hE).mono ?_
      rintro e w' ⟨rfl, s', g', h1, h2⟩
      exact ⟨rfl, s', _, g', _, h1, h2, ha.rep frm ⟨er, ek⟩ hld, hx.repX frm ⟨er, ek⟩ hld, by have := repR_sz x r frm ⟨er, ek⟩ hld; omega⟩
  by_cases k5 : kind = 5
  · subst k5
    cases own
    · refine (pl_5_false who lim rts hld frm a b c d er ek all w h ha hx hsz hcnt hE).mono ?_
      rintro e w' ⟨rfl, s', g', h1, h2⟩
      exact ⟨rfl, s', _, g', _, h1, h2, ha, hx, by omega⟩
    · refine (pl_5_true who lim rts hld frm a b c d er ek all w h ha hx hsz hcnt hE).mono ?_
      rintro e w' ⟨rfl, s', g', h1, h2⟩
      exact ⟨rfl, s', _, g', _, h1, h2, ha, hx, by omega⟩
  by_cases k6 : kind = 6
  · subst k6
    cases own
    · refine (pl_6_false who lim rts hld frm a b c d er ek all w h ha hx hsz hcnt hE).mono ?_
      rintro e w' ⟨rfl, s', g', h1, h2⟩
      exact ⟨rfl, s', _, g', _, h1, h2, ha.fin, finX_nm hx, by have := finR_sz x r; omega⟩
    · refine (pl_6_true who lim rts hld frm a b c d er ek all w h ha hx hsz hcnt hE).mono ?_
      rintro e w' ⟨rfl, s', g', h1, h2⟩
      exact ⟨rfl, s', _, g', _, h1, h2, ha.fin, finX_nm hx, by have := finR_sz x r; omega⟩
  have j1 : (kind == 1) = false := by simpa using k1
  have j2 : (kind == 2) = false := by simpa using k2
  have j3 : (kind == 3) = false := by simpa using k3
  have j4 : (kind == 4) = false := by simpa using k4
  have j5 : (kind == 5) = false := by simpa using k5
  have j6 : (kind == 6) = false := by simpa using k6
  cases own
  · refine (pl_0_false who lim rts hld frm a b c d er ek all kind j1 j2 j3 j4 j5 j6 w h ha hx hsz hcnt hE).mono ?_
    rintro e w' ⟨rfl, s', g', h1, h2⟩
    exact ⟨rfl, s', _, g', _, h1, h2, ha, hx, by omega⟩
  · refine (pl_0_true who lim rts hld frm a b c d er ek all kind j1 j2 j3 j4 j5 j6 w h ha hx hsz hcnt hE).mono ?_
    rintro e w' ⟨rfl, s', g', h1, h2⟩
    exact ⟨rfl, s', _, g', _, h1, h2, ha, hx, by omega⟩
end Go.Proofs.Ytjojhhkbebddmaa
