import Derived.Test.YtjpdcahodmomgaaArgs
namespace Go.Proofs.Ytjpdcahodmomgaa
open Go.RowKit Go.PlainAid
set_option linter.unusedVariables false
theorem by_of {W : World} {ao : Option Addr} {N cap : Nat} {os : List UInt8} (hl : os.length = N) (hnl : ao = none → N = 0 ∧ cap = 0) (hat : 0 < N → ∃ b off, ao = some ⟨b, off, none⟩ ∧ ∀ (i : Nat) o, os[i]? = some o → RowAt W b (off + i * 1) [B o]) : By W (.slice ao N cap) os := by
  refine ⟨ao, N, cap, rfl, hl, hnl, fun ad e j u hu => ?_⟩
  rw [List.getElem?_map] at hu
  cases ho : os[j]? with
  | none => rw [ho] at hu; cases hu
  | some o =>
    rw [ho] at hu
    cases hu
    have hlt := (List.getElem?_eq_some_iff.1 ho).1
    obtain ⟨b, off, e2, h2⟩ := hat (by omega)
    rw [e2] at e
    cases e
    have := h2 j o ho 0 (B o) rfl
    rw [Nat.mul_one, Nat.add_zero] at this
    rw [addr_add]
    exact this
end Go.Proofs.Ytjpdcahodmomgaa
