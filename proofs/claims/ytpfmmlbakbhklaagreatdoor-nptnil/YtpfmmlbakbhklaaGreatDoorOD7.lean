/- What Ref returns, the program's and the document's, each way. Condition: the package's two tables lie in their variables (for the program's). -/
import Derived.Test.YtpfmmlbakbhklaaGreatDoorOD4
namespace Go.Proofs.YtpfmmlbakbhklaaGreatDoor.O
open Go.RowKit

end Go.Proofs.YtpfmmlbakbhklaaGreatDoor.O
