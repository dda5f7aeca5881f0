import Derived.Test.YtomijmikkbhgmabT8
namespace Go.Proofs.Ytomijmikkbhgmab
open Go.RowKit

end Go.Proofs.Ytomijmikkbhgmab
