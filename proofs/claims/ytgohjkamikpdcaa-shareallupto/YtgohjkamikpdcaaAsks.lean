import Derived.Test.YtgohjkamikpdcaaP4
namespace Go.Proofs.Ytgohjkamikpdcaa
open Go.RowKit Go.PlainAid
set_option linter.unusedVariables false
set_option linter.unusedSimpArgs false
/-- A keep at its beginning. -/
def keep0 : Obj := .cells #[.bool false, .slice none 0 0, .slice none 0 0, .slice none 0 0, .slice none 0 0, .slice none 0 0, .slice none 0 0] 44
end Go.Proofs.Ytgohjkamikpdcaa
