import Derived.Test.YtgohjkamikpdcaaP2
import Derived.Test.YtgohjkamikpdcaaAsks
namespace Go.Proofs.Ytgohjkamikpdcaa
open Go.RowKit Go.PlainAid
set_option linter.unusedVariables false
set_option linter.unusedSimpArgs false
def es0 : ES := ⟨.slice none 0 0, .slice none 0 0, .slice none 0 0, .slice none 0 0, [], []⟩
theorem early_start {L kb : Nat} {w : World} (h : Blk w kb #[.bool false, .slice none 0 0, .slice none 0 0, .slice none 0 0, .slice none 0 0, .slice none 0 0, .slice none 0 0] 44) (hL : L ≤ kb) : (early L kb).Inv es0 w :=
  ⟨⟨h, World.ownsRow_nil _ _ _ _, World.ownsRow_nil _ _ _ _, (fun e he => by cases he), World.ownsRow_nil _ _ _ _, World.ownsRow_nil _ _ _ _, (fun e he => by cases he), (fun e he => by cases he), (fun g e => by cases e), hL⟩, (fun e he => by cases he), fun e he => by cases he⟩
theorem es0_bl {L kb k : Nat} (h : (early L kb).bl es0 k) : k = kb := by
  rcases h with q | q | q | q | q | ⟨x, hx, q⟩ | ⟨x, hx, q⟩
  · exact q
  · cases q
  · cases q
  · cases q
  · cases q
  · cases hx
  · cases hx
end Go.Proofs.Ytgohjkamikpdcaa
