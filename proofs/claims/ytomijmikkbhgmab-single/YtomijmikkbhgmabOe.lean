import Derived.Test.YtomijmikkbhgmabT23
namespace Go.Proofs.Ytomijmikkbhgmab
open Go.RowKit

end Go.Proofs.Ytomijmikkbhgmab
