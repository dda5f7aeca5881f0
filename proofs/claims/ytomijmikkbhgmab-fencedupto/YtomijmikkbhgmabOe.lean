import Derived.Test.YtomijmikkbhgmabT21
namespace Go.Proofs.Ytomijmikkbhgmab
open Go.RowKit

end Go.Proofs.Ytomijmikkbhgmab
